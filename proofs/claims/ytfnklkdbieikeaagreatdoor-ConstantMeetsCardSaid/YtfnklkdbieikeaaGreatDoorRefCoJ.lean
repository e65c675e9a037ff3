/- The reference's Out, Touches. -/
import Derived.Test.YtfnklkdbieikeaaGreatDoorRefCoC
import Derived.Test.YtfnklkdbieikeaaGreatDoorBaseE
import Derived.Test.YtfnklkdbieikeaaGreatDoorBaseW
import Derived.Deep.RegionHeld3
import Derived.Deep.DrawnRows
namespace Go.Proofs.YtfnklkdbieikeaaGreatDoor
open Go.RowKit
set_option linter.unusedVariables false
set_option linter.unusedSimpArgs false
set_option maxRecDepth 100000
attribute [local go_sem ↓] Go.wp_at_zero Go.wp_at_succ

set_option maxHeartbeats 8000000 in
theorem s13out_any (a b : Int) (v k j : Nat) (vx : Value) (w : World) (hx : IsS w vx a b) (la : zl a ≤ 10000) (lb : zl b ≤ 10000) (hk : k ≤ 10000) (hj : v = k + j) (hj2 : j ≤ 10000) :
    Calls Tryz.prog 28 #[vx, .int .i64 (v : Int), .int .i64 (k : Int)] w (RetI6 w (mkM (a / 2 ^ j) (-(k : Int))) (mkE (a / 2 ^ j) (-(k : Int))) (mkM (cdv b (2 ^ j)) (-(k : Int))) (mkE (cdv b (2 ^ j)) (-(k : Int)))) := by
  obtain ⟨A, c, B, d, rfl, hn1, hn2⟩ := hx.form
  have L0 := ((Lq.mk0 w).n hn2).n hn1
  have w1 : IntKind.i64.wrap ((v : Int) - (k : Int)) = (j : Int) := by rw [IntKind.wrap_i64]; omega
  have w2 : IntKind.i64.wrap (-(k : Int)) = -(k : Int) := by rw [IntKind.wrap_i64]; omega
  have p2 := pow2_pos j
  have z1 := zl_floor a p2
  have z2 := zl_floor (-b) p2
  have z3 := zl_neg b
  unfold cdv
  have g1 := fun x W h => rzshr_any a x W h (by omega) j (by omega)
  have g2 := fun x W h => rmake8_any (a / 2 ^ j) (-(k : Int)) x W h (by omega)
  have g3 := fun x W h => rzneg_any b x W h (by omega)
  have g4 := fun x W h => rzshr_any (-b) x W h (by omega) j (by omega)
  have g5 := fun x W h => rzneg_any (-b / 2 ^ j) x W h (by omega)
  have z4 := zl_neg (-b / 2 ^ j)
  have g6 := fun x W h => rmake8_any (-(-b / 2 ^ j)) (-(k : Int)) x W h (by omega)
  obtain ⟨p, hp⟩ : ∃ z, a / 2 ^ j = z := ⟨_, rfl⟩
  rw [hp] at g1 g2 ⊢
  obtain ⟨q, hq⟩ : ∃ z, -b = z := ⟨_, rfl⟩
  rw [hq] at g3 g4 g5 g6 ⊢
  obtain ⟨r, hr⟩ : ∃ z, q / 2 ^ j = z := ⟨_, rfl⟩
  rw [hr] at g4 g5 g6 ⊢
  obtain ⟨s, hs⟩ : ∃ z, -r = z := ⟨_, rfl⟩
  rw [hs] at g5 g6 ⊢
  generalize mkR p (-(k : Int)) = R at *
  generalize mkR s (-(k : Int)) = R2 at *
  obtain ⟨M, hM⟩ : ∃ z, mkM p (-(k : Int)) = z := ⟨_, rfl⟩
  rw [hM] at g2 ⊢
  obtain ⟨E, hE⟩ : ∃ z, mkE p (-(k : Int)) = z := ⟨_, rfl⟩
  rw [hE] at g2 ⊢
  obtain ⟨M2, hM2⟩ : ∃ z, mkM s (-(k : Int)) = z := ⟨_, rfl⟩
  rw [hM2] at g6 ⊢
  obtain ⟨E2, hE2⟩ : ∃ z, mkE s (-(k : Int)) = z := ⟨_, rfl⟩
  rw [hE2] at g6 ⊢
  have G1 := Lib.hid g1
  have G2 := Lib.hid g2
  have G3 := Lib.hid g3
  have G4 := Lib.hid g4
  have G5 := Lib.hid g5
  have G6 := Lib.hid g6
  clear g1 g2 g3 g4 g5 g6 z1 z2 z3 z4 p2 hp hq hr hs hM hE hM2 hE2 hn1 hn2 hj la lb
  go_enter Tryz.func28, Tryz.ntmps28
  go_wp2_with fail
  have L := ((L0.varS (w.heap.size) (by simp) (ng a) A (zl a) c (ng b) B (zl b) d).varI (w.heap.size + 1) (by simp) false none 0 0 0 false none 0 0 0)
  have c10 := L.tl.b0.c40
  have c11 := L.tl.b0.c41
  have c12 := L.tl.b0.c42
  have c13 := L.tl.b0.c43
  (try go_wp2_with fail)
  refine (G1.out _ _ (isZ_s (z := a) (s := .slice A (zl a) c) (L.getN (by simp)))).mono ?_
  rintro e w1 ⟨vv, rfl, iz, be⟩
  clear c10 c11 c12 c13
  obtain ⟨A1, c1, rfl, in9⟩ := iz.form
  replace L := (L.step be).n in9
  clear be iz in9
  go_wp2_with fail
  refine (G2.out _ _ (isZ_s (z := p) (s := .slice A1 (zl p) c1) (L.getN (by simp)))).mono ?_
  rintro e w2 ⟨vv, rfl, id, be⟩
  obtain ⟨A2, c2, rfl, _, in9⟩ := id.form
  replace L := (L.step be).n in9
  clear be id in9
  have hl0 := L.b0.lt
  replace L := L.varD w2.heap.size rfl (ng M) A2 (zl M) c2 E
  have c00 := L.b0.c30
  have c01 := L.b0.c31
  have c02 := L.b0.c32
  have c20 := L.tl.tl.b0.c40
  have c21 := L.tl.tl.b0.c41
  have c22 := L.tl.tl.b0.c42
  have c23 := L.tl.tl.b0.c43
  go_wp2_with fail
  clear c00 c01 c02 c20 c21 c22 c23
  obtain ⟨g1, hg1⟩ : ∃ g9, w2.heap.size = g9 := ⟨_, rfl⟩
  rw [hg1] at L hl0 ⊢
  clear hg1
  refine (G3.out _ _ (isZ_s (z := b) (s := .slice B (zl b) d) (L.getN (by simp)))).mono ?_
  rintro e w3 ⟨vv, rfl, iz, be⟩
  obtain ⟨A3, c3, rfl, in9⟩ := iz.form
  replace L := (L.step be).n in9
  clear be iz in9
  go_wp2_with fail
  refine (G4.out _ _ (isZ_s (z := q) (s := .slice A3 (zl q) c3) (L.getN (by simp)))).mono ?_
  rintro e w4 ⟨vv, rfl, iz, be⟩
  obtain ⟨A4, c4, rfl, in9⟩ := iz.form
  replace L := (L.step be).n in9
  clear be iz in9
  go_wp2_with fail
  refine (G5.out _ _ (isZ_s (z := r) (s := .slice A4 (zl r) c4) (L.getN (by simp)))).mono ?_
  rintro e w5 ⟨vv, rfl, iz, be⟩
  obtain ⟨A5, c5, rfl, in9⟩ := iz.form
  replace L := (L.step be).n in9
  clear be iz in9
  go_wp2_with fail
  refine (G6.out _ _ (isZ_s (z := s) (s := .slice A5 (zl s) c5) (L.getN (by simp)))).mono ?_
  rintro e w6 ⟨vv, rfl, id, be⟩
  obtain ⟨A6, c6, rfl, _, in9⟩ := id.form
  replace L := ((L.step be).n in9).swap
  clear be id in9
  have hlr := L.b0.lt
  have hls := L.tl.b0.lt
  have c00 := L.b0.c60
  have f00 := L.b0.fr 0
  have c01 := L.b0.c61
  have f01 := L.b0.fr 1
  have c02 := L.b0.c62
  have f02 := L.b0.fr 2
  have c03 := L.b0.c63
  have f03 := L.b0.fr 3
  have c04 := L.b0.c64
  have f04 := L.b0.fr 4
  have c05 := L.b0.c65
  have f05 := L.b0.fr 5
  have LN := L.varD w6.heap.size rfl (ng M2) A6 (zl M2) c6 E2
  have n0 := LN.b0.c30
  have m0 := LN.tl.tl.b0.c30
  have n1 := LN.b0.c31
  have m1 := LN.tl.tl.b0.c31
  have n2 := LN.b0.c32
  have m2 := LN.tl.tl.b0.c32
  go_wp2_with fail
  clear c00 f00 c01 f01 c02 f02 c03 f03 c04 f04 c05 f05
  have LP0 := L.putI (by omega) (by first | (simp; done) | (simp; omega)) (ng M) A2 (zl M) c2 E (ng M2) A6 (zl M2) c6 E2
  have LP := LP0.varD _ rfl (ng M2) A6 (zl M2) c6 E2
  have k0 := LP.tl.b0.c60
  have k1 := LP.tl.b0.c61
  have k2 := LP.tl.b0.c62
  have k3 := LP.tl.b0.c63
  have k4 := LP.tl.b0.c64
  have k5 := LP.tl.b0.c65
  unfold put6 at k0 k1 k2 k3 k4 k5
  exact bodyPost_ret (v := .agg #[.bool (ng M), .slice A2 (zl M) c2, .int .i64 E, .bool (ng M2), .slice A6 (zl M2) c6, .int .i64 E2]) (by simp [results, Tryz.results28, go_sem, k0, k1, k2, k3, k4, k5]) rfl ⟨_, rfl, isI_n (LP.getN (by simp)) (LP.getN (by simp)), LP.below⟩
set_option maxHeartbeats 8000000 in
theorem s13touches_any (m e n f m2 e2 n2 f2 : Int) (vx vy : Value) (w : World) (hx : IsI w vx m e n f) (hy : IsI w vy m2 e2 n2 f2) (lm : zl m ≤ 1000) (ln : zl n ≤ 1000) (lm2 : zl m2 ≤ 1000) (ln2 : zl n2 ≤ 1000) (he : -20000 ≤ e ∧ e ≤ 20000) (hf : -20000 ≤ f ∧ f ≤ 20000) (he2 : -20000 ≤ e2 ∧ e2 ≤ 20000) (hf2 : -20000 ≤ f2 ∧ f2 ≤ 20000) :
    Calls Tryz.prog 13 #[vx, vy] w (RetB w (icm m e n f m2 e2 n2 f2 == 0)) := by
  obtain ⟨A, c, B, d, rfl, hn1, hn2⟩ := hx.form
  obtain ⟨A2, k2, B2, d2, rfl, hn3, hn4⟩ := hy.form
  have L0 := ((((Lq.mk0 w).n hn4).n hn3).n hn2).n hn1
  have h1 := fun v u W h1 h2 => r10cmp_any m e n f m2 e2 n2 f2 v u W h1 h2 (by omega) (by omega) (by omega) (by omega) (by omega) (by omega) (by omega) (by omega)
  obtain ⟨x, hx9⟩ : ∃ z, icm m e n f m2 e2 n2 f2 = z := ⟨_, rfl⟩
  rw [hx9] at h1 ⊢
  have H1 := Lib.hid h1
  clear h1 hx9 hn1 hn2 hn3 hn4 hx hy
  go_enter Tryz.func13, Tryz.ntmps13
  go_wp2_with fail
  have L := ((L0.varI (w.heap.size) (by simp) (ng m) A (zl m) c e (ng n) B (zl n) d f).varI (w.heap.size + 1) (by simp) (ng m2) A2 (zl m2) k2 e2 (ng n2) B2 (zl n2) d2 f2)
  have c00 := L.b0.c60
  have c01 := L.b0.c61
  have c02 := L.b0.c62
  have c03 := L.b0.c63
  have c04 := L.b0.c64
  have c05 := L.b0.c65
  have c10 := L.tl.b0.c60
  have c11 := L.tl.b0.c61
  have c12 := L.tl.b0.c62
  have c13 := L.tl.b0.c63
  have c14 := L.tl.b0.c64
  have c15 := L.tl.b0.c65
  clear c00 c01 c02 c03 c04 c05 c10 c11 c12 c13 c14 c15
  have c00 := L.b0.c60
  have c01 := L.b0.c61
  have c02 := L.b0.c62
  have c03 := L.b0.c63
  have c04 := L.b0.c64
  have c05 := L.b0.c65
  have c10 := L.tl.b0.c60
  have c11 := L.tl.b0.c61
  have c12 := L.tl.b0.c62
  have c13 := L.tl.b0.c63
  have c14 := L.tl.b0.c64
  have c15 := L.tl.b0.c65
  (try go_wp2_with fail)
  refine (H1.out _ _ _ (isI_n (L.getN (by simp)) (L.getN (by simp))) (isI_n (L.getN (by simp)) (L.getN (by simp)))).mono ?_
  rintro e w1 ⟨rfl, be⟩
  clear c00 c01 c02 c03 c04 c05 c10 c11 c12 c13 c14 c15
  replace L := L.step be
  clear be
  (try go_wp2_with fail)
  (try go_ret)
  exact ⟨rfl, L.below⟩

end Go.Proofs.YtfnklkdbieikeaaGreatDoor
