/- The sanity check of layer 13: the examples of chapter 13 hold. -/
import Derived.Test.YtfnklkdbieikeaaGreatDoorCpL
import Derived.Test.YtfnklkdbieikeaaGreatDoorBaseE
import Derived.Deep.RegionHeld3
import Derived.Deep.DrawnRows
namespace Go.Proofs.YtfnklkdbieikeaaGreatDoor
open Go.RowKit
set_option linter.unusedVariables false
set_option linter.unusedSimpArgs false
set_option maxRecDepth 100000
attribute [local go_sem ↓] Go.wp_at_zero Go.wp_at_succ

set_option maxHeartbeats 16000000 in
theorem awake13_any (w : World) (hT : Tab w) :
    Calls Tryz.prog 8 #[] w (RetB w true) := by
  obtain ⟨T, hT1, hc⟩ := cst_pi (k := 0) (by omega)
  obtain ⟨T', e', p1, p2⟩ := inP_spec (List.all_eq_true.1 pi_all 0 (List.mem_range.2 (by omega)))
  obtain rfl : T = T' := by rw [hT1] at e'; exact Option.some.inj e'
  have q1 : dq (aM T 0) (aE T 0) ≤ dq 3 0 := by
    rw [hc.qlo]
    refine (dq_le_iff _ _ _).2 ?_
    have h := Int.lt_of_le_of_lt p1 (show cPi < 4 * 2 ^ (500 - 0) by decide +kernel)
    have := Int.lt_of_mul_lt_mul_right h (Int.le_of_lt (pow2_pos _))
    omega
  have q2 : dq 4 0 ≤ dq (bM T 0) (bE T 0) := by
    rw [hc.qhi]
    refine (dq_le_iff _ _ _).2 ?_
    have h := Int.lt_of_lt_of_le (show 3 * 2 ^ (500 - 0) < cPi by decide +kernel) p2
    have := Int.lt_of_mul_lt_mul_right h (Int.le_of_lt (pow2_pos _))
    omega
  have a3 : AbP 3 2 := by unfold AbP; decide
  have a4 : AbP 4 2 := by unfold AbP; decide
  obtain ⟨_, x2, x3, x4, _, x6⟩ := nf a3 (by omega)
  obtain ⟨_, y2, y3, y4, _, y6⟩ := nf a4 (by omega)
  obtain ⟨lo1, lo2, lo3⟩ := hc.lo
  obtain ⟨hi1, hi2, hi3⟩ := hc.hi
  have g1 : ∀ W, Below w.heap.size w W → Calls Tryz.prog 25 #[.int .i64 0] W (RetIE W (aM T 0) (aE T 0) (bM T 0) (bE T 0) 0) := fun W hW => cpi_yes 0 T W (by omega) (hT.mono hW) hT1
  have g2 := fun W => cpi_no (-1) W (by decide)
  have g3 := fun W => rof8_any 3 W (by omega) (by omega)
  have g4 := fun W => rof8_any 4 W (by omega) (by omega)
  have g5 : ∀ v W, IsI W v (aM T 0) (aE T 0) (bM T 0) (bE T 0) → Calls Tryz.prog 12 #[v, .int .i64 0] W (RetB W true) := fun v W h => by
    have s := s13tight_any (aM T 0) (aE T 0) (bM T 0) (bE T 0) 0 v W h (by omega) (by omega) (by omega) (by omega) lo3 hi3 (by omega) (by omega)
    rwa [show tgtB (aM T 0) (aE T 0) (bM T 0) (bE T 0) 0 = true from hc.tight] at s
  have g6 : ∀ v u W, IsI W v (mkM 3 0) (mkE 3 0) (mkM 4 0) (mkE 4 0) → IsI W u (aM T 0) (aE T 0) (bM T 0) (bE T 0) → Calls Tryz.prog 24 #[v, u] W (RetB W true) := fun v u W h k => by
    have s := r10within_any (mkM 3 0) (mkE 3 0) (mkM 4 0) (mkE 4 0) (aM T 0) (aE T 0) (bM T 0) (bE T 0) v u W h k (by omega) (by omega) (by omega) (by omega) (by omega) (by omega) (by omega) (by omega)
    rwa [(inB_iff _ _ _ _ _ _ _ _).2 ⟨by rw [x6]; exact q1, by rw [y6]; exact q2⟩] at s
  clear hT1 hc e' p1 p2 q1 q2 a3 a4 x2 x3 x4 x6 y2 y3 y4 y6 lo1 lo2 lo3 hi1 hi2 hi3 hT
  generalize aM T 0 = M at *
  generalize aE T 0 = E at *
  generalize bM T 0 = N at *
  generalize bE T 0 = G at *
  generalize mkM 3 0 = M3 at *
  generalize mkE 3 0 = E3 at *
  generalize mkM 4 0 = M4 at *
  generalize mkE 4 0 = E4 at *
  have G1 := Lib.hid g1
  have G2 := Lib.hid g2
  have G3 := Lib.hid g3
  have G4 := Lib.hid g4
  have G5 := Lib.hid g5
  have G6 := Lib.hid g6
  clear g1 g2 g3 g4 g5 g6
  go_enter Tryz.func8, Tryz.ntmps8
  go_wp2_with fail
  have L := Lq.mk0 w
  (try go_wp2_with fail)
  refine (G1.out _ L.below).mono ?_
  rintro e w1 ⟨vv, rfl, ii, be⟩
  obtain ⟨A1, c1, B1, d1, rfl, ia, ib⟩ := ii.form
  replace L := ((L.step be).n ib).n ia
  clear be ii ia ib
  replace L := L.varI w1.heap.size rfl (ng M) A1 (zl M) c1 E (ng N) B1 (zl N) d1 G
  have cel00 := L.b0.c60
  have cel01 := L.b0.c61
  have cel02 := L.b0.c62
  have cel03 := L.b0.c63
  have cel04 := L.b0.c64
  have cel05 := L.b0.c65
  go_wp2_with fail
  clear cel00 cel01 cel02 cel03 cel04 cel05
  obtain ⟨b1, hb1⟩ : ∃ g9, w1.heap.size = g9 := ⟨_, rfl⟩
  rw [hb1] at L ⊢
  clear hb1
  refine (G2.out _).mono ?_
  rintro e w2 ⟨vv, rfl, ii, be⟩
  obtain ⟨A2, c2, B2, d2, rfl, ia, ib⟩ := ii.form
  replace L := ((L.step be).n ib).n ia
  clear be ii ia ib
  have hl2 := L.b0.lt
  replace L := L.varI w2.heap.size rfl (ng 0) A2 (zl 0) c2 0 (ng 0) B2 (zl 0) d2 0
  have cel00 := L.b0.c60
  have cel01 := L.b0.c61
  have cel02 := L.b0.c62
  have cel03 := L.b0.c63
  have cel04 := L.b0.c64
  have cel05 := L.b0.c65
  go_wp2_with fail
  clear cel00 cel01 cel02 cel03 cel04 cel05
  obtain ⟨b2, hb2⟩ : ∃ g9, w2.heap.size = g9 := ⟨_, rfl⟩
  rw [hb2] at L hl2 ⊢
  clear hb2
  refine (G3.out _).mono ?_
  rintro e w3 ⟨v3, rfl, id, be⟩
  obtain ⟨A3, c3, rfl, _, in9⟩ := id.form
  replace L := (L.step be).n in9
  clear be id in9
  (try go_wp2_with fail)
  refine (G4.out _).mono ?_
  rintro e w4 ⟨v4, rfl, id, be⟩
  obtain ⟨A4, c4, rfl, _, in9⟩ := id.form
  replace L := (L.step be).n in9
  clear be id in9
  have hl3 := L.tl.b0.lt
  replace L := L.varI w4.heap.size rfl (ng M3) A3 (zl M3) c3 E3 (ng M4) A4 (zl M4) c4 E4
  have cel00 := L.b0.c60
  have cel01 := L.b0.c61
  have cel02 := L.b0.c62
  have cel03 := L.b0.c63
  have cel04 := L.b0.c64
  have cel05 := L.b0.c65
  have cel20 := L.tl.tl.b0.c60
  have cel21 := L.tl.tl.b0.c61
  have cel22 := L.tl.tl.b0.c62
  have cel23 := L.tl.tl.b0.c63
  have cel24 := L.tl.tl.b0.c64
  have cel25 := L.tl.tl.b0.c65
  go_wp2_with fail
  clear cel00 cel01 cel02 cel03 cel04 cel05 cel20 cel21 cel22 cel23 cel24 cel25
  obtain ⟨b3, hb3⟩ : ∃ g9, w4.heap.size = g9 := ⟨_, rfl⟩
  rw [hb3] at L hl3 ⊢
  clear hb3
  refine (G5.out _ _ (isI_n (m := M) (e := E) (n := N) (f := G) (s := .slice A1 (zl M) c1) (t := .slice B1 (zl N) d1) (L.getN (by simp)) (L.getN (by simp)))).mono ?_
  rintro e w5 ⟨rfl, be⟩
  replace L := L.step be
  clear be
  have cel00 := L.b0.c60
  have cel01 := L.b0.c61
  have cel02 := L.b0.c62
  have cel03 := L.b0.c63
  have cel04 := L.b0.c64
  have cel05 := L.b0.c65
  have cel20 := L.tl.tl.b0.c60
  have cel21 := L.tl.tl.b0.c61
  have cel22 := L.tl.tl.b0.c62
  have cel23 := L.tl.tl.b0.c63
  have cel24 := L.tl.tl.b0.c64
  have cel25 := L.tl.tl.b0.c65
  (try go_wp2_with fail)
  refine (G6.out _ _ _ (isI_n (m := M3) (e := E3) (n := M4) (f := E4) (s := .slice A3 (zl M3) c3) (t := .slice A4 (zl M4) c4) (L.getN (by simp)) (L.getN (by simp))) (isI_n (m := M) (e := E) (n := N) (f := G) (s := .slice A1 (zl M) c1) (t := .slice B1 (zl N) d1) (L.getN (by simp)) (L.getN (by simp)))).mono ?_
  rintro e w6 ⟨rfl, be⟩
  clear cel00 cel01 cel02 cel03 cel04 cel05 cel20 cel21 cel22 cel23 cel24 cel25
  replace L := L.step be
  clear be
  (try go_wp2_with fail)
  (try go_ret)
  exact ⟨rfl, L.below⟩

end Go.Proofs.YtfnklkdbieikeaaGreatDoor
