/- The walk of IntervalHalves: whatever the input, the law returns true and turns nothing that was there. -/
import Derived.Test.YtgcmdlannbobgaaDoorAwake10
import Derived.Test.YtgcmdlannbobgaaDoorIvQ
import Derived.Test.YtgcmdlannbobgaaDoorIvMath3
import Derived.Test.YtgcmdlannbobgaaDoorMillIv
import Derived.Test.YtgcmdlannbobgaaDoorBaseF
import Derived.Deep.RegionHeld3
import Derived.Deep.DrawnRows
namespace Go.Proofs.YtgcmdlannbobgaaDoor
open Go.RowKit
set_option linter.unusedVariables false
set_option linter.unusedSimpArgs false
set_option maxRecDepth 100000
attribute [local go_sem ↓] Go.wp_at_zero Go.wp_at_succ

set_option maxHeartbeats 16000000 in
theorem walk_IntervalHalves (b0 : Bool) (a0 : Option Addr) (len0 cap0 : Nat) (z0 : List Nat) (f0 : Int) (bb0 : Bool) (aa0 : Option Addr) (ll0 cc0 : Nat) (zz0 : List Nat) (ff0 : Int) (w : World) (h0 : Sl w a0 len0 cap0 z0 ∧ -9223372036854775808 ≤ f0 ∧ f0 ≤ 9223372036854775807) (k0 : Sl w aa0 ll0 cc0 zz0 ∧ -9223372036854775808 ≤ ff0 ∧ ff0 ≤ 9223372036854775807) (hT : Tab w) :
    Calls Tryd.prog 5 #[.agg #[.bool b0, .slice a0 len0 cap0, .int .i64 f0, .bool bb0, .slice aa0 ll0 cc0, .int .i64 ff0]] w (fun e w' => e = .returned (.bool true) ∧ Below w.heap.size w w') := by
  go_enter Tryd.func5, Tryd.ntmps5
  go_wp2_with fail
  have L := ((Lq.mk0 w).varI (w.heap.size) (by simp) b0 a0 len0 cap0 f0 bb0 aa0 ll0 cc0 ff0)
  (try go_wp2_with fail)
  refine (awake10_any _).mono ?_
  rintro e9 w1 ⟨rfl, be⟩
  replace L := L.step be
  clear be
  have c00 := L.b0.c60
  have c01 := L.b0.c61
  have c02 := L.b0.c62
  have c03 := L.b0.c63
  have c04 := L.b0.c64
  have c05 := L.b0.c65
  (try go_wp2_with fail)
  refine (millI_any b0 bb0 z0 zz0 5 60 a0 aa0 len0 cap0 ll0 cc0 f0 ff0 _ (h0.1.mono L.below) (k0.1.mono L.below) (by omega) (by omega) h0.2.1 h0.2.2 k0.2.1 k0.2.2).mono ?_
  rintro e9 w2 ⟨vx, ok, m, e, n, f, rfl, ii, ⟨lm, ln⟩, he, hf, hv, le1, be⟩
  clear c00 c01 c02 c03 c04 c05
  obtain ⟨A, c, B, d, rfl, ia, ib⟩ := ii.form
  replace L := ((L.step be).n ib).n ia
  clear be ii ia ib
  have hlt0 := L.b0.lt
  replace L := L.varI w2.heap.size rfl (ng m) A (zl m) c e (ng n) B (zl n) d f
  cases ok
  · go_wp2_with fail
    go_ret
    exact ⟨rfl, L.below⟩
  obtain ⟨v1, v2⟩ := hv (by first | trivial | rfl)
  clear hv
  have HT := Lib.hid (fun W (hW : Below w.heap.size w W) => hT.mono hW)
  obtain ⟨za, r0, r1, mv, mz, me', ms, mlo, mhi⟩ := mid_ok (m := m) (e := e) (n := n) (f := f) (by omega) (by omega) (by omega) (by omega) le1
  have c2 := fun v W h (hW : Below w.heap.size w W) => i10mid_any m e n f v W h (by omega) (by omega) (by omega) (by omega) r0 (by omega) (HT.out W hW)
  rw [r1] at c2
  simp only [midM, midE] at mv mz me' ms mlo mhi
  obtain ⟨M, hM⟩ : ∃ M, mkM (mkM (addS m e n f) (min e f)) (mkE (addS m e n f) (min e f) + -1) = M := ⟨_, rfl⟩
  obtain ⟨E, hE⟩ : ∃ E, mkE (mkM (addS m e n f) (min e f)) (mkE (addS m e n f) (min e f) + -1) = E := ⟨_, rfl⟩
  rw [hM, hE] at c2 mlo mhi mv ms
  rw [hM] at mz
  rw [hE] at me'
  clear hM hE r0 r1 za
  have hw9 := half_w lm ln mz he hf me' ms
  obtain ⟨wr1, wv1, wq1, wz1, we1⟩ := width_ok (m := m) (e := e) (n := M) (f := E) (by omega) (by omega) (by omega) (by omega)
  obtain ⟨wr2, wv2, wq2, wz2, we2⟩ := width_ok (m := M) (e := E) (n := n) (f := f) (by omega) (by omega) (by omega) (by omega)
  have d1 := (dcm_le m e M E).2 mlo
  have d2 := (dcm_le M E n f).2 mhi
  have k1 := fun v u W h1 h2 => i10make_any m e M E v u W h1 h2 (by omega) (by omega) (by omega) (by omega) v1 mv
  unfold RetMk at k1
  simp only [if_pos d1] at k1
  have k2 := fun v u W h1 h2 => i10make_any M E n f v u W h1 h2 (by omega) (by omega) (by omega) (by omega) mv v2
  unfold RetMk at k2
  simp only [if_pos d2] at k2
  have mt := fun v u W h1 h2 => i10meet_any m e M E M E n f v u W h1 h2 (by omega) (by omega) (by omega) (by omega) (by omega) (by omega) (by omega) (by omega) v1 mv mv v2
  have gh1 := gst_hi v1 mv mlo
  have lh1 := lst_lo mhi
  have hmt : mtB m e M E M E n f = true := by
    unfold mtB
    rw [gh1, lh1]
    exact decide_eq_true (by rw [dcm_self]; omega)
  unfold RetMt at mt
  rw [hmt, gh1, lh1] at mt
  simp only [↓reduceIte] at mt
  have hl := fun v u W h1 h2 => i10hull_any m e M E M E n f v u W h1 h2 (by omega) (by omega) (by omega) (by omega) (by omega) (by omega) (by omega) (by omega) v1 mv mv v2
  rw [lst_lo mlo, gst_hi mv v2 mhi] at hl
  have w1 := fun v W h (hW : Below w.heap.size w W) => i10width_any m e M E v W h (by omega) (by omega) (by omega) (by omega) (HT.out W hW)
  have w2 := fun v W h (hW : Below w.heap.size w W) => i10width_any M E n f v W h (by omega) (by omega) (by omega) (by omega) (HT.out W hW)
  rw [wr1, hw9.1, hw9.2] at w1
  rw [wr2] at w2
  obtain ⟨U, hU⟩ : ∃ U, mkM (addS n f (-M) E) (min f E) = U := ⟨_, rfl⟩
  obtain ⟨P, hP⟩ : ∃ P, mkE (addS n f (-M) E) (min f E) = P := ⟨_, rfl⟩
  rw [hU, hP] at w1 w2
  rw [hU] at wz2
  rw [hP] at we2
  have pt := fun v W h => i10point_any M E v W h (by omega) (by omega) mv
  have sm := fun v u W h1 h2 => i10same_any M E M E M E M E v u W h1 h2 (by omega) (by omega) (by omega) (by omega) (by omega) (by omega) (by omega) (by omega) mv mv mv mv
  have sx := fun v u W h1 h2 => i10same_any m e n f m e n f v u W h1 h2 (by omega) (by omega) (by omega) (by omega) (by omega) (by omega) (by omega) (by omega) v1 v2 v1 v2
  rw [show ((decide (E = E) && decide (M = M)) && (decide (E = E) && decide (M = M))) = true from by simp] at sm
  rw [show ((decide (e = e) && decide (m = m)) && (decide (f = f) && decide (n = n))) = true from by simp] at sx
  have rt := fun v W h => rrat8_any U P v W h (by omega) (by omega)
  generalize U * 2 ^ P.toNat = a at *
  generalize 2 ^ (-P).toNat = q at *
  have C2 := Lib.hid c2
  have K1 := Lib.hid k1
  have K2 := Lib.hid k2
  have MT := Lib.hid mt
  have HL := Lib.hid hl
  have W1 := Lib.hid w1
  have W2 := Lib.hid w2
  have PT := Lib.hid pt
  have SM := Lib.hid sm
  have SX := Lib.hid sx
  have RT := Lib.hid rt
  have S7 := Lib.hid (fun v u W h1 h2 => same7_yes a q v u W h1 h2)
  clear c2 k1 k2 mt hl w1 w2 pt sm sx rt hU hP hw9 wr1 wv1 wq1 wz1 we1 wr2 wv2 wq2 wz2 we2 d1 d2 gh1 lh1 hmt mv mz me' ms mlo mhi le1 lm ln he hf v1 v2 hT
  have cel00 := L.b0.c60
  have cel01 := L.b0.c61
  have cel02 := L.b0.c62
  have cel03 := L.b0.c63
  have cel04 := L.b0.c64
  have cel05 := L.b0.c65
  go_wp2_with fail
  obtain ⟨g, hg⟩ : ∃ g, w2.heap.size = g := ⟨_, rfl⟩
  rw [hg] at L hlt0 cel00 cel01 cel02 cel03 cel04 cel05 ⊢
  clear hg
  refine (C2.out _ _ (isI_n (m := m) (e := e) (n := n) (f := f) (s := .slice A (zl m) c) (t := .slice B (zl n) d) (L.getN (by simp)) (L.getN (by simp))) L.below).mono ?_
  rintro e w3 ⟨vv, rfl, id, be⟩
  clear cel00 cel01 cel02 cel03 cel04 cel05
  obtain ⟨A4, c4, rfl, _, in9⟩ := id.form
  replace L := (L.step be).n in9
  clear be id in9
  have hlg4 := L.b0.lt
  replace L := L.varD w3.heap.size rfl (ng M) A4 (zl M) c4 E
  have cel00 := L.b0.c30
  have cel01 := L.b0.c31
  have cel02 := L.b0.c32
  have cel10 := L.tl.b0.c60
  have cel11 := L.tl.b0.c61
  have cel12 := L.tl.b0.c62
  have cel13 := L.tl.b0.c63
  have cel14 := L.tl.b0.c64
  have cel15 := L.tl.b0.c65
  go_wp2_with fail
  obtain ⟨g4, hg⟩ : ∃ g, w3.heap.size = g := ⟨_, rfl⟩
  rw [hg] at L hlg4 cel00 cel01 cel02 ⊢
  clear hg
  refine (K1.out _ _ _ (isD_n (m := m) (e := e) (s := .slice A (zl m) c) (L.getN (v := .slice A (zl m) c) (x := (m).natAbs) (by simp))) (isD_n (m := M) (e := E) (s := .slice A4 (zl M) c4) (L.getN (by simp)))).mono ?_
  rintro e w4 ⟨vv, rfl, ii, be⟩
  clear cel00 cel01 cel02 cel10 cel11 cel12 cel13 cel14 cel15
  obtain ⟨A5, c5, B5, d5, rfl, ia, ib⟩ := ii.form
  replace L := ((L.step be).n ib).n ia
  clear be ii ia ib
  have hlg5 := L.b0.lt
  replace L := L.varI w4.heap.size rfl (ng m) A5 (zl m) c5 e (ng M) B5 (zl M) d5 E
  have cel10 := L.tl.b0.c30
  have cel11 := L.tl.b0.c31
  have cel12 := L.tl.b0.c32
  have cel20 := L.tl.tl.b0.c60
  have cel21 := L.tl.tl.b0.c61
  have cel22 := L.tl.tl.b0.c62
  have cel23 := L.tl.tl.b0.c63
  have cel24 := L.tl.tl.b0.c64
  have cel25 := L.tl.tl.b0.c65
  go_wp2_with fail
  obtain ⟨g5, hg⟩ : ∃ g, w4.heap.size = g := ⟨_, rfl⟩
  rw [hg] at L hlg5 ⊢
  clear hg
  refine (K2.out _ _ _ (isD_n (m := M) (e := E) (s := .slice A4 (zl M) c4) (L.getN (by simp))) (isD_n (m := n) (e := f) (s := .slice B (zl n) d) (L.getN (v := .slice B (zl n) d) (x := (n).natAbs) (by simp)))).mono ?_
  rintro e w5 ⟨vv, rfl, ii, be⟩
  clear cel10 cel11 cel12 cel20 cel21 cel22 cel23 cel24 cel25
  obtain ⟨A6, c6, B6, d6, rfl, ia, ib⟩ := ii.form
  replace L := ((L.step be).n ib).n ia
  clear be ii ia ib
  have hlg6 := L.b0.lt
  replace L := L.varI w5.heap.size rfl (ng M) A6 (zl M) c6 E (ng n) B6 (zl n) d6 f
  have cel00 := L.b0.c60
  have cel01 := L.b0.c61
  have cel02 := L.b0.c62
  have cel03 := L.b0.c63
  have cel04 := L.b0.c64
  have cel05 := L.b0.c65
  have cel10 := L.tl.b0.c60
  have cel11 := L.tl.b0.c61
  have cel12 := L.tl.b0.c62
  have cel13 := L.tl.b0.c63
  have cel14 := L.tl.b0.c64
  have cel15 := L.tl.b0.c65
  go_wp2_with fail
  obtain ⟨g6, hg⟩ : ∃ g, w5.heap.size = g := ⟨_, rfl⟩
  rw [hg] at L hlg6 cel00 cel01 cel02 cel03 cel04 cel05 ⊢
  clear hg
  refine (MT.out _ _ _ (isI_n (m := m) (e := e) (n := M) (f := E) (s := .slice A5 (zl m) c5) (t := .slice B5 (zl M) d5) (L.getN (by simp)) (L.getN (by simp))) (isI_n (m := M) (e := E) (n := n) (f := f) (s := .slice A6 (zl M) c6) (t := .slice B6 (zl n) d6) (L.getN (by simp)) (L.getN (by simp)))).mono ?_
  rintro e w6 ⟨vv, rfl, ii, be⟩
  clear cel00 cel01 cel02 cel03 cel04 cel05 cel10 cel11 cel12 cel13 cel14 cel15
  obtain ⟨A7, c7, B7, d7, rfl, ia, ib⟩ := ii.form
  replace L := ((L.step be).n ib).n ia
  clear be ii ia ib
  have hlg7 := L.b0.lt
  replace L := L.varI w6.heap.size rfl (ng M) A7 (zl M) c7 E (ng M) B7 (zl M) d7 E
  have cel20 := L.tl.tl.b0.c60
  have cel21 := L.tl.tl.b0.c61
  have cel22 := L.tl.tl.b0.c62
  have cel23 := L.tl.tl.b0.c63
  have cel24 := L.tl.tl.b0.c64
  have cel25 := L.tl.tl.b0.c65
  go_wp2_with fail
  obtain ⟨g7, hg⟩ : ∃ g, w6.heap.size = g := ⟨_, rfl⟩
  rw [hg] at L hlg7 ⊢
  clear hg
  refine (W1.out _ _ (isI_n (m := m) (e := e) (n := M) (f := E) (s := .slice A5 (zl m) c5) (t := .slice B5 (zl M) d5) (L.getN (by simp)) (L.getN (by simp))) L.below).mono ?_
  rintro e w7 ⟨vv, rfl, id, be⟩
  clear cel20 cel21 cel22 cel23 cel24 cel25
  obtain ⟨A8, c8, rfl, _, in9⟩ := id.form
  replace L := (L.step be).n in9
  clear be id in9
  have hlg8 := L.b0.lt
  replace L := L.varD w7.heap.size rfl (ng U) A8 (zl U) c8 P
  have cel20 := L.tl.tl.b0.c60
  have cel21 := L.tl.tl.b0.c61
  have cel22 := L.tl.tl.b0.c62
  have cel23 := L.tl.tl.b0.c63
  have cel24 := L.tl.tl.b0.c64
  have cel25 := L.tl.tl.b0.c65
  go_wp2_with fail
  obtain ⟨g8, hg⟩ : ∃ g, w7.heap.size = g := ⟨_, rfl⟩
  rw [hg] at L hlg8 ⊢
  clear hg
  refine (W2.out _ _ (isI_n (m := M) (e := E) (n := n) (f := f) (s := .slice A6 (zl M) c6) (t := .slice B6 (zl n) d6) (L.getN (by simp)) (L.getN (by simp))) L.below).mono ?_
  rintro e w8 ⟨vv, rfl, id, be⟩
  clear cel20 cel21 cel22 cel23 cel24 cel25
  obtain ⟨A9, c9, rfl, _, in9⟩ := id.form
  replace L := (L.step be).n in9
  clear be id in9
  have hlg9 := L.b0.lt
  replace L := L.varD w8.heap.size rfl (ng U) A9 (zl U) c9 P
  have cel00 := L.b0.c30
  have cel01 := L.b0.c31
  have cel02 := L.b0.c32
  have cel10 := L.tl.b0.c30
  have cel11 := L.tl.b0.c31
  have cel12 := L.tl.b0.c32
  have cel20 := L.tl.tl.b0.c60
  have cel21 := L.tl.tl.b0.c61
  have cel22 := L.tl.tl.b0.c62
  have cel23 := L.tl.tl.b0.c63
  have cel24 := L.tl.tl.b0.c64
  have cel25 := L.tl.tl.b0.c65
  have cel30 := L.tl.tl.tl.b0.c60
  have cel31 := L.tl.tl.tl.b0.c61
  have cel32 := L.tl.tl.tl.b0.c62
  have cel33 := L.tl.tl.tl.b0.c63
  have cel34 := L.tl.tl.tl.b0.c64
  have cel35 := L.tl.tl.tl.b0.c65
  have cel40 := L.tl.tl.tl.tl.b0.c60
  have cel41 := L.tl.tl.tl.tl.b0.c61
  have cel42 := L.tl.tl.tl.tl.b0.c62
  have cel43 := L.tl.tl.tl.tl.b0.c63
  have cel44 := L.tl.tl.tl.tl.b0.c64
  have cel45 := L.tl.tl.tl.tl.b0.c65
  have cel50 := L.tl.tl.tl.tl.tl.b0.c30
  have cel51 := L.tl.tl.tl.tl.tl.b0.c31
  have cel52 := L.tl.tl.tl.tl.tl.b0.c32
  have cel60 := L.tl.tl.tl.tl.tl.tl.b0.c60
  have cel61 := L.tl.tl.tl.tl.tl.tl.b0.c61
  have cel62 := L.tl.tl.tl.tl.tl.tl.b0.c62
  have cel63 := L.tl.tl.tl.tl.tl.tl.b0.c63
  have cel64 := L.tl.tl.tl.tl.tl.tl.b0.c64
  have cel65 := L.tl.tl.tl.tl.tl.tl.b0.c65
  go_wp2_with fail
  obtain ⟨g9, hg⟩ : ∃ g, w8.heap.size = g := ⟨_, rfl⟩
  rw [hg] at L hlg9 cel00 cel01 cel02 ⊢
  clear hg
  replace L := L.drew
  clear cel00 cel01 cel02 cel10 cel11 cel12 cel20 cel21 cel22 cel23 cel24 cel25 cel30 cel31 cel32 cel33 cel34 cel35 cel40 cel41 cel42 cel43 cel44 cel45 cel50 cel51 cel52 cel60 cel61 cel62 cel63 cel64 cel65
  have cel00 := L.b0.c30
  have cel01 := L.b0.c31
  have cel02 := L.b0.c32
  have cel10 := L.tl.b0.c30
  have cel11 := L.tl.b0.c31
  have cel12 := L.tl.b0.c32
  have cel20 := L.tl.tl.b0.c60
  have cel21 := L.tl.tl.b0.c61
  have cel22 := L.tl.tl.b0.c62
  have cel23 := L.tl.tl.b0.c63
  have cel24 := L.tl.tl.b0.c64
  have cel25 := L.tl.tl.b0.c65
  have cel30 := L.tl.tl.tl.b0.c60
  have cel31 := L.tl.tl.tl.b0.c61
  have cel32 := L.tl.tl.tl.b0.c62
  have cel33 := L.tl.tl.tl.b0.c63
  have cel34 := L.tl.tl.tl.b0.c64
  have cel35 := L.tl.tl.tl.b0.c65
  have cel40 := L.tl.tl.tl.tl.b0.c60
  have cel41 := L.tl.tl.tl.tl.b0.c61
  have cel42 := L.tl.tl.tl.tl.b0.c62
  have cel43 := L.tl.tl.tl.tl.b0.c63
  have cel44 := L.tl.tl.tl.tl.b0.c64
  have cel45 := L.tl.tl.tl.tl.b0.c65
  have cel50 := L.tl.tl.tl.tl.tl.b0.c30
  have cel51 := L.tl.tl.tl.tl.tl.b0.c31
  have cel52 := L.tl.tl.tl.tl.tl.b0.c32
  have cel60 := L.tl.tl.tl.tl.tl.tl.b0.c60
  have cel61 := L.tl.tl.tl.tl.tl.tl.b0.c61
  have cel62 := L.tl.tl.tl.tl.tl.tl.b0.c62
  have cel63 := L.tl.tl.tl.tl.tl.tl.b0.c63
  have cel64 := L.tl.tl.tl.tl.tl.tl.b0.c64
  have cel65 := L.tl.tl.tl.tl.tl.tl.b0.c65
  go_region_held3 (fun w' => w'.cell? ⟨g, 0, none⟩ = some (.bool (ng m)) ∧ w'.cell? ⟨g, 1, none⟩ = some (.slice A (zl m) c) ∧ w'.cell? ⟨g, 2, none⟩ = some (.int .i64 e) ∧ w'.cell? ⟨g, 3, none⟩ = some (.bool (ng n)) ∧ w'.cell? ⟨g, 4, none⟩ = some (.slice B (zl n) d) ∧ w'.cell? ⟨g, 5, none⟩ = some (.int .i64 f) ∧ w'.cell? ⟨g4, 0, none⟩ = some (.bool (ng M)) ∧ w'.cell? ⟨g4, 1, none⟩ = some (.slice A4 (zl M) c4) ∧ w'.cell? ⟨g4, 2, none⟩ = some (.int .i64 E) ∧ w'.cell? ⟨g5, 0, none⟩ = some (.bool (ng m)) ∧ w'.cell? ⟨g5, 1, none⟩ = some (.slice A5 (zl m) c5) ∧ w'.cell? ⟨g5, 2, none⟩ = some (.int .i64 e) ∧ w'.cell? ⟨g5, 3, none⟩ = some (.bool (ng M)) ∧ w'.cell? ⟨g5, 4, none⟩ = some (.slice B5 (zl M) d5) ∧ w'.cell? ⟨g5, 5, none⟩ = some (.int .i64 E) ∧ w'.cell? ⟨g6, 0, none⟩ = some (.bool (ng M)) ∧ w'.cell? ⟨g6, 1, none⟩ = some (.slice A6 (zl M) c6) ∧ w'.cell? ⟨g6, 2, none⟩ = some (.int .i64 E) ∧ w'.cell? ⟨g6, 3, none⟩ = some (.bool (ng n)) ∧ w'.cell? ⟨g6, 4, none⟩ = some (.slice B6 (zl n) d6) ∧ w'.cell? ⟨g6, 5, none⟩ = some (.int .i64 f) ∧ w'.cell? ⟨g7, 0, none⟩ = some (.bool (ng M)) ∧ w'.cell? ⟨g7, 1, none⟩ = some (.slice A7 (zl M) c7) ∧ w'.cell? ⟨g7, 2, none⟩ = some (.int .i64 E) ∧ w'.cell? ⟨g7, 3, none⟩ = some (.bool (ng M)) ∧ w'.cell? ⟨g7, 4, none⟩ = some (.slice B7 (zl M) d7) ∧ w'.cell? ⟨g7, 5, none⟩ = some (.int .i64 E) ∧ w'.cell? ⟨g8, 0, none⟩ = some (.bool (ng U)) ∧ w'.cell? ⟨g8, 1, none⟩ = some (.slice A8 (zl U) c8) ∧ w'.cell? ⟨g8, 2, none⟩ = some (.int .i64 P) ∧ w'.cell? ⟨g9, 0, none⟩ = some (.bool (ng U)) ∧ w'.cell? ⟨g9, 1, none⟩ = some (.slice A9 (zl U) c9) ∧ w'.cell? ⟨g9, 2, none⟩ = some (.int .i64 P)) (first | (with_reducible exact ⟨L.tl.tl.tl.tl.tl.tl.b0.c60, L.tl.tl.tl.tl.tl.tl.b0.c61, L.tl.tl.tl.tl.tl.tl.b0.c62, L.tl.tl.tl.tl.tl.tl.b0.c63, L.tl.tl.tl.tl.tl.tl.b0.c64, L.tl.tl.tl.tl.tl.tl.b0.c65, L.tl.tl.tl.tl.tl.b0.c30, L.tl.tl.tl.tl.tl.b0.c31, L.tl.tl.tl.tl.tl.b0.c32, L.tl.tl.tl.tl.b0.c60, L.tl.tl.tl.tl.b0.c61, L.tl.tl.tl.tl.b0.c62, L.tl.tl.tl.tl.b0.c63, L.tl.tl.tl.tl.b0.c64, L.tl.tl.tl.tl.b0.c65, L.tl.tl.tl.b0.c60, L.tl.tl.tl.b0.c61, L.tl.tl.tl.b0.c62, L.tl.tl.tl.b0.c63, L.tl.tl.tl.b0.c64, L.tl.tl.tl.b0.c65, L.tl.tl.b0.c60, L.tl.tl.b0.c61, L.tl.tl.b0.c62, L.tl.tl.b0.c63, L.tl.tl.b0.c64, L.tl.tl.b0.c65, L.tl.b0.c30, L.tl.b0.c31, L.tl.b0.c32, L.b0.c30, L.b0.c31, L.b0.c32⟩) | exact ⟨L.tl.tl.tl.tl.tl.tl.b0.c60, L.tl.tl.tl.tl.tl.tl.b0.c61, L.tl.tl.tl.tl.tl.tl.b0.c62, L.tl.tl.tl.tl.tl.tl.b0.c63, L.tl.tl.tl.tl.tl.tl.b0.c64, L.tl.tl.tl.tl.tl.tl.b0.c65, L.tl.tl.tl.tl.tl.b0.c30, L.tl.tl.tl.tl.tl.b0.c31, L.tl.tl.tl.tl.tl.b0.c32, L.tl.tl.tl.tl.b0.c60, L.tl.tl.tl.tl.b0.c61, L.tl.tl.tl.tl.b0.c62, L.tl.tl.tl.tl.b0.c63, L.tl.tl.tl.tl.b0.c64, L.tl.tl.tl.tl.b0.c65, L.tl.tl.tl.b0.c60, L.tl.tl.tl.b0.c61, L.tl.tl.tl.b0.c62, L.tl.tl.tl.b0.c63, L.tl.tl.tl.b0.c64, L.tl.tl.tl.b0.c65, L.tl.tl.b0.c60, L.tl.tl.b0.c61, L.tl.tl.b0.c62, L.tl.tl.b0.c63, L.tl.tl.b0.c64, L.tl.tl.b0.c65, L.tl.b0.c30, L.tl.b0.c31, L.tl.b0.c32, L.b0.c30, L.b0.c31, L.b0.c32⟩) (first | (go_at_call 22; (with_reducible refine (SM.out _ _ _ ?_ ?_ ).mono ?_); (· (refine isI_n (L.getN ?_) (L.getN ?_) <;> (repeat (first | (with_reducible exact List.mem_cons_self) | apply List.mem_cons_of_mem)))); (· (refine isI_n (L.getN ?_) (L.getN ?_) <;> (repeat (first | (with_reducible exact List.mem_cons_self) | apply List.mem_cons_of_mem)))); rintro e wh ⟨rfl, be⟩; replace L := L.step be; clear be) | (go_at_call 22; (with_reducible refine (SX.out _ _ _ ?_ ?_ ).mono ?_); (· (refine isI_n (L.getN ?_) (L.getN ?_) <;> (repeat (first | (with_reducible exact List.mem_cons_self) | apply List.mem_cons_of_mem)))); (· (refine isI_n (L.getN ?_) (L.getN ?_) <;> (repeat (first | (with_reducible exact List.mem_cons_self) | apply List.mem_cons_of_mem)))); rintro e wh ⟨rfl, be⟩; replace L := L.step be; clear be) | (go_at_call 24; (with_reducible refine (HL.out _ _ _ ?_ ?_ ).mono ?_); (· (refine isI_n (L.getN ?_) (L.getN ?_) <;> (repeat (first | (with_reducible exact List.mem_cons_self) | apply List.mem_cons_of_mem)))); (· (refine isI_n (L.getN ?_) (L.getN ?_) <;> (repeat (first | (with_reducible exact List.mem_cons_self) | apply List.mem_cons_of_mem)))); rintro e wh ⟨vh, rfl, ii, be⟩; obtain ⟨A11, c11, B11, d11, rfl, ia, ib⟩ := ii.form; replace L := ((L.step be).n ib).n ia; clear be ii ia ib) | (go_at_call 23; (with_reducible refine (PT.out _ _ ?_ ).mono ?_); (· (refine isD_n (L.getN ?_); (repeat (first | (with_reducible exact List.mem_cons_self) | apply List.mem_cons_of_mem)))); rintro e wh ⟨vh, rfl, ii, be⟩; obtain ⟨A10, c10, B10, d10, rfl, ia, ib⟩ := ii.form; replace L := ((L.step be).n ib).n ia; clear be ii ia ib) | (go_at_call 14; (with_reducible refine (RT.out _ _ ?_ ).mono ?_); (· (refine isD_n (L.getN ?_); (repeat (first | (with_reducible exact List.mem_cons_self) | apply List.mem_cons_of_mem)))); rintro e wh ⟨vh, rfl, iq, be⟩; replace L := (L.step be).q iq; clear be iq) | (go_at_call 25; (with_reducible refine (S7.out _ _ _ ?_ ?_ ).mono ?_); (· (refine L.getQ ?_; (repeat (first | (with_reducible exact List.mem_cons_self) | apply List.mem_cons_of_mem)))); (· (refine L.getQ ?_; (repeat (first | (with_reducible exact List.mem_cons_self) | apply List.mem_cons_of_mem)))); rintro e wh ⟨rfl, be⟩; replace L := L.step be; clear be))
  clear cel00 cel01 cel02 cel10 cel11 cel12 cel20 cel21 cel22 cel23 cel24 cel25 cel30 cel31 cel32 cel33 cel34 cel35 cel40 cel41 cel42 cel43 cel44 cel45 cel50 cel51 cel52 cel60 cel61 cel62 cel63 cel64 cel65
  go_wp2_with fail
  go_ret
  exact ⟨rfl, L.below⟩

end Go.Proofs.YtgcmdlannbobgaaDoor
