/- The reference's PiSpan; sizes. -/
import Derived.Test.YtfnklkdbieikeaaGreatDoorRefCoF
import Derived.Deep.RegionHeld3
import Derived.Deep.DrawnRows
namespace Go.Proofs.YtfnklkdbieikeaaGreatDoor
open Go.RowKit
set_option linter.unusedVariables false
set_option linter.unusedSimpArgs false
set_option maxRecDepth 100000
attribute [local go_sem ↓] Go.wp_at_zero Go.wp_at_succ

theorem at_size {n : Int} (hn : 2 ≤ n) {v : Nat} (hv : v ≤ 10000) : zl (atL n v) ≤ 701 ∧ zl (atH n v) ≤ 701 := by
  obtain ⟨h1, h2⟩ := atR_abs hn v 0 (2 ^ v / n) (cdv (2 ^ v) n) 0 0 (at_first hn v)
  have x1 := h1.zl
  have x2 := h2.zl
  have x3 := zl_sub (atR n v 0 (2 ^ v / n) (cdv (2 ^ v) n) 0 0).1 2
  have x4 := zl_add (atR n v 0 (2 ^ v / n) (cdv (2 ^ v) n) 0 0).2 2
  have x5 : zl 2 ≤ 1 := len_le1 (by omega)
  unfold atL atH atS
  omega
theorem pi_size {v : Nat} (hv : v ≤ 10000) : zl (piL v) ≤ 710 ∧ zl (piH v) ≤ 710 := by
  obtain ⟨a1, a2⟩ := at_size (n := 5) (by omega) hv
  obtain ⟨b1, b2⟩ := at_size (n := 239) (by omega) hv
  have x5 : zl 16 ≤ 1 := len_le1 (by omega)
  have x6 : zl 4 ≤ 1 := len_le1 (by omega)
  have y1 := zl_mul (atL 5 v) 16
  have y2 := zl_mul (atH 5 v) 16
  have y3 := zl_mul (atL 239 v) 4
  have y4 := zl_mul (atH 239 v) 4
  have z1 := zl_add (atL 5 v * 16) (-(atH 239 v * 4))
  have z2 := zl_add (atH 5 v * 16) (-(atL 239 v * 4))
  rw [zl_neg] at z1 z2
  unfold piL piH
  omega
theorem ex_size {v : Nat} (hv : v ≤ 10000) : zl (exL v) ≤ 701 ∧ zl (exH v) ≤ 701 := by
  obtain ⟨h1, h2⟩ := exR_abs (v + 2) 1 (2 ^ v) (2 ^ v) (2 ^ v) (2 ^ v) (ex_first v)
  have x1 := h1.zl
  have x2 := h2.zl
  have x3 := zl_sub (exR (v + 2) 1 (2 ^ v) (2 ^ v) (2 ^ v) (2 ^ v)).1 3
  have x4 := zl_add (exR (v + 2) 1 (2 ^ v) (2 ^ v) (2 ^ v) (2 ^ v)).2 3
  have x5 : zl 3 ≤ 1 := len_le1 (by omega)
  unfold exL exH exS
  omega
theorem ln_size {v : Nat} (hv : v ≤ 10000) : zl (lnL v) ≤ 702 ∧ zl (lnH v) ≤ 702 := by
  obtain ⟨h1, h2⟩ := lnR_abs v 0 (2 ^ v / 3) (cdv (2 ^ v) 3) 0 0 (at_first (n := 3) (by omega) v)
  have x1 := h1.zl
  have x2 := h2.zl
  have x3 := zl_sub (lnR v 0 (2 ^ v / 3) (cdv (2 ^ v) 3) 0 0).1 2
  have x4 := zl_add (lnR v 0 (2 ^ v / 3) (cdv (2 ^ v) 3) 0 0).2 2
  have x5 : zl 2 ≤ 1 := len_le1 (by omega)
  have x6 := zl_mul ((lnR v 0 (2 ^ v / 3) (cdv (2 ^ v) 3) 0 0).1 - 2) 2
  have x7 := zl_mul ((lnR v 0 (2 ^ v / 3) (cdv (2 ^ v) 3) 0 0).2 + 2) 2
  unfold lnL lnH lnS
  omega

set_option maxHeartbeats 8000000 in
theorem s13pi_any (v : Nat) (w : World) (hv : v ≤ 10000) :
    Calls Tryz.prog 29 #[.int .i64 (v : Int)] w (RetSp w (piL v) (piH v)) := by
  obtain ⟨a1, a2⟩ := at_size (n := 5) (by omega) hv
  obtain ⟨b1, b2⟩ := at_size (n := 239) (by omega) hv
  have x5 : zl 16 ≤ 1 := len_le1 (by omega)
  have x6 : zl 4 ≤ 1 := len_le1 (by omega)
  have y1 := zl_mul (atL 5 v) 16
  have y2 := zl_mul (atH 5 v) 16
  have y3 := zl_mul (atL 239 v) 4
  have y4 := zl_mul (atH 239 v) 4
  have g1 := fun W => s13atan_any 5 v W (by omega) (by omega) hv
  have g2 := fun x W h => s13times_any (atL 5 v) (atH 5 v) 16 x W h (by omega) (by omega) (by omega) (by omega)
  have g3 := fun W => s13atan_any 239 v W (by omega) (by omega) hv
  have g4 := fun x W h => s13times_any (atL 239 v) (atH 239 v) 4 x W h (by omega) (by omega) (by omega) (by omega)
  have g5 := fun x y W h k => s13sub_any (atL 5 v * 16) (atH 5 v * 16) (atL 239 v * 4) (atH 239 v * 4) x y W h k (by omega) (by omega) (by omega) (by omega)
  rw [show atL 5 v * 16 + -(atH 239 v * 4) = piL v from rfl, show atH 5 v * 16 + -(atL 239 v * 4) = piH v from rfl] at g5
  generalize piL v = X at *
  generalize piH v = Y at *
  generalize atL 5 v = a at *
  generalize atH 5 v = b at *
  generalize atL 239 v = p at *
  generalize atH 239 v = q at *
  obtain ⟨a3, ha3⟩ : ∃ z, a * 16 = z := ⟨_, rfl⟩
  obtain ⟨b3, hb3⟩ : ∃ z, b * 16 = z := ⟨_, rfl⟩
  obtain ⟨p3, hp3⟩ : ∃ z, p * 4 = z := ⟨_, rfl⟩
  obtain ⟨q3, hq3⟩ : ∃ z, q * 4 = z := ⟨_, rfl⟩
  rw [ha3, hb3] at g2 g5
  rw [hp3, hq3] at g4 g5
  have G1 := Lib.hid g1
  have G2 := Lib.hid g2
  have G3 := Lib.hid g3
  have G4 := Lib.hid g4
  have G5 := Lib.hid g5
  clear g1 g2 g3 g4 g5 a1 a2 b1 b2 x5 x6 y1 y2 y3 y4 ha3 hb3 hp3 hq3 hv
  go_enter Tryz.func29, Tryz.ntmps29
  have L := ((Lq.mk0 w).varS (w.heap.size) (by simp) false none 0 0 false none 0 0)
  (try go_wp2_with fail)
  refine (G1.out _).mono ?_
  rintro e w1 ⟨vv, rfl, iq, be⟩
  obtain ⟨A1, c1, B1, d1, rfl, ia, ib⟩ := iq.form
  replace L := ((L.step be).n ib).n ia
  clear be iq ia ib
  go_wp2_with fail
  refine (G2.out _ _ (isS_n (a := a) (b := b) (s := .slice A1 (zl a) c1) (t := .slice B1 (zl b) d1) (L.getN (by simp)) (L.getN (by simp)))).mono ?_
  rintro e w2 ⟨vv, rfl, iq, be⟩
  obtain ⟨A2, c2, B2, d2, rfl, ia, ib⟩ := iq.form
  replace L := ((L.step be).n ib).n ia
  clear be iq ia ib
  go_wp2_with fail
  refine (G3.out _).mono ?_
  rintro e w3 ⟨vv, rfl, iq, be⟩
  obtain ⟨A3, c3, B3, d3, rfl, ia, ib⟩ := iq.form
  replace L := ((L.step be).n ib).n ia
  clear be iq ia ib
  go_wp2_with fail
  refine (G4.out _ _ (isS_n (a := p) (b := q) (s := .slice A3 (zl p) c3) (t := .slice B3 (zl q) d3) (L.getN (by simp)) (L.getN (by simp)))).mono ?_
  rintro e w4 ⟨vv, rfl, iq, be⟩
  obtain ⟨A4, c4, B4, d4, rfl, ia, ib⟩ := iq.form
  replace L := ((L.step be).n ib).n ia
  clear be iq ia ib
  go_wp2_with fail
  refine (G5.out _ _ _ (isS_n (a := a3) (b := b3) (s := .slice A2 (zl a3) c2) (t := .slice B2 (zl b3) d2) (L.getN (by simp)) (L.getN (by simp))) (isS_n (a := p3) (b := q3) (s := .slice A4 (zl p3) c4) (t := .slice B4 (zl q3) d4) (L.getN (by simp)) (L.getN (by simp)))).mono ?_
  rintro e w5 ⟨vv, rfl, iq, be⟩
  obtain ⟨A9, c9, B9, d9, rfl, ia, ib⟩ := iq.form
  replace L := ((L.step be).n ib).n ia
  clear be iq ia ib
  have c00 := L.b0.c40
  have f00 := L.b0.fr 0
  have c01 := L.b0.c41
  have f01 := L.b0.fr 1
  have c02 := L.b0.c42
  have f02 := L.b0.fr 2
  have c03 := L.b0.c43
  have f03 := L.b0.fr 3
  go_wp2_with fail
  have LP := L.putS (by omega) (by first | (simp; done) | (simp; omega)) (ng X) A9 (zl X) c9 (ng Y) B9 (zl Y) d9
  have k0 := LP.b0.c40
  have k1 := LP.b0.c41
  have k2 := LP.b0.c42
  have k3 := LP.b0.c43
  unfold put4 at k0 k1 k2 k3
  exact bodyPost_ret (v := .agg #[.bool (ng X), .slice A9 (zl X) c9, .bool (ng Y), .slice B9 (zl Y) d9]) (by simp [results, Tryz.results29, go_sem, k0, k1, k2, k3]) rfl ⟨_, rfl, isS_n (LP.getN (by simp)) (LP.getN (by simp)), LP.below⟩

end Go.Proofs.YtfnklkdbieikeaaGreatDoor
