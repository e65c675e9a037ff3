/- The walk of IntervalMiddles: whatever the input, the law returns true and turns nothing that was there. -/
import Derived.Test.YtgcmdlannbobgaaDoorAwake10
import Derived.Test.YtgcmdlannbobgaaDoorIvQ
import Derived.Test.YtgcmdlannbobgaaDoorIvMath3
import Derived.Test.YtgcmdlannbobgaaDoorMillIv
import Derived.Deep.RegionHeld3
import Derived.Deep.DrawnRows
namespace Go.Proofs.YtgcmdlannbobgaaDoor
open Go.RowKit
set_option linter.unusedVariables false
set_option linter.unusedSimpArgs false
set_option maxRecDepth 100000
attribute [local go_sem ↓] Go.wp_at_zero Go.wp_at_succ

set_option maxHeartbeats 8000000 in
theorem walk_IntervalMiddles (b0 : Bool) (a0 : Option Addr) (len0 cap0 : Nat) (z0 : List Nat) (f0 : Int) (bb0 : Bool) (aa0 : Option Addr) (ll0 cc0 : Nat) (zz0 : List Nat) (ff0 : Int) (w : World) (h0 : Sl w a0 len0 cap0 z0 ∧ -9223372036854775808 ≤ f0 ∧ f0 ≤ 9223372036854775807) (k0 : Sl w aa0 ll0 cc0 zz0 ∧ -9223372036854775808 ≤ ff0 ∧ ff0 ≤ 9223372036854775807) (hT : Tab w) :
    Calls Tryd.prog 3 #[.agg #[.bool b0, .slice a0 len0 cap0, .int .i64 f0, .bool bb0, .slice aa0 ll0 cc0, .int .i64 ff0]] w (fun e w' => e = .returned (.bool true) ∧ Below w.heap.size w w') := by
  go_enter Tryd.func3, Tryd.ntmps3
  go_wp2_with fail
  have L := ((Lq.mk0 w).varI (w.heap.size) (by simp) b0 a0 len0 cap0 f0 bb0 aa0 ll0 cc0 ff0)
  (try go_wp2_with fail)
  refine (awake10_any _).mono ?_
  rintro e9 w1 ⟨rfl, be⟩
  replace L := L.step be
  clear be
  have c00 := L.b0.c60
  have c01 := L.b0.c61
  have c02 := L.b0.c62
  have c03 := L.b0.c63
  have c04 := L.b0.c64
  have c05 := L.b0.c65
  (try go_wp2_with fail)
  refine (millI_any b0 bb0 z0 zz0 5 60 a0 aa0 len0 cap0 ll0 cc0 f0 ff0 _ (h0.1.mono L.below) (k0.1.mono L.below) (by omega) (by omega) h0.2.1 h0.2.2 k0.2.1 k0.2.2).mono ?_
  rintro e9 w2 ⟨vx, ok, m, e, n, f, rfl, ii, ⟨lm, ln⟩, he, hf, hv, le1, be⟩
  clear c00 c01 c02 c03 c04 c05
  obtain ⟨A, c, B, d, rfl, ia, ib⟩ := ii.form
  replace L := ((L.step be).n ib).n ia
  clear be ii ia ib
  have hlt0 := L.b0.lt
  replace L := L.varI w2.heap.size rfl (ng m) A (zl m) c e (ng n) B (zl n) d f
  cases ok
  · go_wp2_with fail
    go_ret
    exact ⟨rfl, L.below⟩
  obtain ⟨v1, v2⟩ := hv (by first | trivial | rfl)
  clear hv
  have HT := Lib.hid (fun W (hW : Below w.heap.size w W) => hT.mono hW)
  obtain ⟨wr0, wv, wq, wz, we⟩ := width_ok (m := m) (e := e) (n := n) (f := f) (by omega) (by omega) (by omega) (by omega)
  obtain ⟨za, r0, r1, mv, mz, me', ms, mlo, mhi⟩ := mid_ok (m := m) (e := e) (n := n) (f := f) (by omega) (by omega) (by omega) (by omega) le1
  have c1 := fun v W h (hW : Below w.heap.size w W) => i10width_any m e n f v W h (by omega) (by omega) (by omega) (by omega) (HT.out W hW)
  have c2 := fun v W h (hW : Below w.heap.size w W) => i10mid_any m e n f v W h (by omega) (by omega) (by omega) (by omega) r0 (by omega) (HT.out W hW)
  have c3 := fun v W h => r10width_any m e n f v W h (by omega) (by omega) (by omega) (by omega)
  have c4 := fun v W h => r10mid_any m e n f v W h (by omega) (by omega) (by omega) (by omega) r0 (by omega)
  rw [wr0] at c1 c3
  rw [r1] at c2 c4
  simp only [midM, midE] at mv mz me' ms mlo mhi
  obtain ⟨U, hU⟩ : ∃ U, mkM (addS n f (-m) e) (min f e) = U := ⟨_, rfl⟩
  obtain ⟨P, hP⟩ : ∃ P, mkE (addS n f (-m) e) (min f e) = P := ⟨_, rfl⟩
  obtain ⟨M, hM⟩ : ∃ M, mkM (mkM (addS m e n f) (min e f)) (mkE (addS m e n f) (min e f) + -1) = M := ⟨_, rfl⟩
  obtain ⟨E, hE⟩ : ∃ E, mkE (mkM (addS m e n f) (min e f)) (mkE (addS m e n f) (min e f) + -1) = E := ⟨_, rfl⟩
  rw [hU, hP] at c1 c3
  rw [hM, hE] at c2 c4 mlo mhi
  rw [hM] at mz
  rw [hE] at me'
  have s1 := fun v u W h1 h2 => same8_any U P U P v u W h1 h2
  have s2 := fun v u W h1 h2 => same8_any M E M E v u W h1 h2
  rw [show (decide (P = P) && decide (U = U)) = true from by simp] at s1
  rw [show (decide (E = E) && decide (M = M)) = true from by simp] at s2
  have t1 := zl_two M E.toNat
  have t2 := len_two (-E).toNat
  have rt := fun v W h => rrat8_any M E v W h (by omega) (by omega)
  have ha := fun v u W h1 h2 => i10has_any m e n f (M * 2 ^ E.toNat) (2 ^ (-E).toNat) v u W h1 h2 (by omega) (by omega) (by omega) (by omega) (by omega) (by omega)
  rw [(hasB_iff m e n f (M * 2 ^ E.toNat) (2 ^ (-E).toNat) (two_pos8 _)).2 ⟨mlo, mhi⟩] at ha
  generalize M * 2 ^ E.toNat = a at *
  generalize 2 ^ (-E).toNat = q at *
  have C1 := Lib.hid c1
  have C2 := Lib.hid c2
  have C3 := Lib.hid c3
  have C4 := Lib.hid c4
  have S1 := Lib.hid s1
  have S2 := Lib.hid s2
  have RT := Lib.hid rt
  have HA := Lib.hid ha
  clear c1 c2 c3 c4 s1 s2 rt ha t1 t2 hU hP hM hE wr0 wv wq wz we za r0 r1 mv mz me' ms mlo mhi le1 lm ln he hf v1 v2 hT
  have cel00 := L.b0.c60
  have cel01 := L.b0.c61
  have cel02 := L.b0.c62
  have cel03 := L.b0.c63
  have cel04 := L.b0.c64
  have cel05 := L.b0.c65
  go_wp2_with fail
  obtain ⟨g, hg⟩ : ∃ g, w2.heap.size = g := ⟨_, rfl⟩
  rw [hg] at L hlt0 cel00 cel01 cel02 cel03 cel04 cel05 ⊢
  clear hg
  refine (C1.out _ _ (isI_n (m := m) (e := e) (n := n) (f := f) (s := .slice A (zl m) c) (t := .slice B (zl n) d) (L.getN (by simp)) (L.getN (by simp))) L.below).mono ?_
  rintro e w3 ⟨vv, rfl, id, be⟩
  clear cel00 cel01 cel02 cel03 cel04 cel05
  obtain ⟨A3, c3, rfl, _, in9⟩ := id.form
  replace L := (L.step be).n in9
  clear be id in9
  have hlg3 := L.b0.lt
  replace L := L.varD w3.heap.size rfl (ng U) A3 (zl U) c3 P
  have cel10 := L.tl.b0.c60
  have cel11 := L.tl.b0.c61
  have cel12 := L.tl.b0.c62
  have cel13 := L.tl.b0.c63
  have cel14 := L.tl.b0.c64
  have cel15 := L.tl.b0.c65
  go_wp2_with fail
  obtain ⟨g3, hg⟩ : ∃ g, w3.heap.size = g := ⟨_, rfl⟩
  rw [hg] at L hlg3 ⊢
  clear hg
  refine (C2.out _ _ (isI_n (m := m) (e := e) (n := n) (f := f) (s := .slice A (zl m) c) (t := .slice B (zl n) d) (L.getN (by simp)) (L.getN (by simp))) L.below).mono ?_
  rintro e w4 ⟨vv, rfl, id, be⟩
  clear cel10 cel11 cel12 cel13 cel14 cel15
  obtain ⟨A4, c4, rfl, _, in9⟩ := id.form
  replace L := (L.step be).n in9
  clear be id in9
  have hlg4 := L.b0.lt
  replace L := L.varD w4.heap.size rfl (ng M) A4 (zl M) c4 E
  have cel20 := L.tl.tl.b0.c60
  have cel21 := L.tl.tl.b0.c61
  have cel22 := L.tl.tl.b0.c62
  have cel23 := L.tl.tl.b0.c63
  have cel24 := L.tl.tl.b0.c64
  have cel25 := L.tl.tl.b0.c65
  go_wp2_with fail
  obtain ⟨g4, hg⟩ : ∃ g, w4.heap.size = g := ⟨_, rfl⟩
  rw [hg] at L hlg4 ⊢
  clear hg
  refine (C3.out _ _ (isI_n (m := m) (e := e) (n := n) (f := f) (s := .slice A (zl m) c) (t := .slice B (zl n) d) (L.getN (by simp)) (L.getN (by simp)))).mono ?_
  rintro e w5 ⟨vv, rfl, id, be⟩
  clear cel20 cel21 cel22 cel23 cel24 cel25
  obtain ⟨A5, c5, rfl, _, in9⟩ := id.form
  replace L := (L.step be).n in9
  clear be id in9
  have hlg5 := L.b0.lt
  replace L := L.varD w5.heap.size rfl (ng U) A5 (zl U) c5 P
  have cel30 := L.tl.tl.tl.b0.c60
  have cel31 := L.tl.tl.tl.b0.c61
  have cel32 := L.tl.tl.tl.b0.c62
  have cel33 := L.tl.tl.tl.b0.c63
  have cel34 := L.tl.tl.tl.b0.c64
  have cel35 := L.tl.tl.tl.b0.c65
  go_wp2_with fail
  obtain ⟨g5, hg⟩ : ∃ g, w5.heap.size = g := ⟨_, rfl⟩
  rw [hg] at L hlg5 ⊢
  clear hg
  refine (C4.out _ _ (isI_n (m := m) (e := e) (n := n) (f := f) (s := .slice A (zl m) c) (t := .slice B (zl n) d) (L.getN (by simp)) (L.getN (by simp)))).mono ?_
  rintro e w6 ⟨vv, rfl, id, be⟩
  clear cel30 cel31 cel32 cel33 cel34 cel35
  obtain ⟨A6, c6, rfl, _, in9⟩ := id.form
  replace L := (L.step be).n in9
  clear be id in9
  have hlg6 := L.b0.lt
  replace L := L.varD w6.heap.size rfl (ng M) A6 (zl M) c6 E
  have cel00 := L.b0.c30
  have cel01 := L.b0.c31
  have cel02 := L.b0.c32
  have cel10 := L.tl.b0.c30
  have cel11 := L.tl.b0.c31
  have cel12 := L.tl.b0.c32
  have cel20 := L.tl.tl.b0.c30
  have cel21 := L.tl.tl.b0.c31
  have cel22 := L.tl.tl.b0.c32
  have cel30 := L.tl.tl.tl.b0.c30
  have cel31 := L.tl.tl.tl.b0.c31
  have cel32 := L.tl.tl.tl.b0.c32
  have cel40 := L.tl.tl.tl.tl.b0.c60
  have cel41 := L.tl.tl.tl.tl.b0.c61
  have cel42 := L.tl.tl.tl.tl.b0.c62
  have cel43 := L.tl.tl.tl.tl.b0.c63
  have cel44 := L.tl.tl.tl.tl.b0.c64
  have cel45 := L.tl.tl.tl.tl.b0.c65
  go_wp2_with fail
  obtain ⟨g6, hg⟩ : ∃ g, w6.heap.size = g := ⟨_, rfl⟩
  rw [hg] at L hlg6 cel00 cel01 cel02 ⊢
  clear hg
  replace L := L.drew
  clear cel00 cel01 cel02 cel10 cel11 cel12 cel20 cel21 cel22 cel30 cel31 cel32 cel40 cel41 cel42 cel43 cel44 cel45
  have cel00 := L.b0.c30
  have cel01 := L.b0.c31
  have cel02 := L.b0.c32
  have cel10 := L.tl.b0.c30
  have cel11 := L.tl.b0.c31
  have cel12 := L.tl.b0.c32
  have cel20 := L.tl.tl.b0.c30
  have cel21 := L.tl.tl.b0.c31
  have cel22 := L.tl.tl.b0.c32
  have cel30 := L.tl.tl.tl.b0.c30
  have cel31 := L.tl.tl.tl.b0.c31
  have cel32 := L.tl.tl.tl.b0.c32
  have cel40 := L.tl.tl.tl.tl.b0.c60
  have cel41 := L.tl.tl.tl.tl.b0.c61
  have cel42 := L.tl.tl.tl.tl.b0.c62
  have cel43 := L.tl.tl.tl.tl.b0.c63
  have cel44 := L.tl.tl.tl.tl.b0.c64
  have cel45 := L.tl.tl.tl.tl.b0.c65
  go_region_held3 (fun w' => w'.cell? ⟨g, 0, none⟩ = some (.bool (ng m)) ∧ w'.cell? ⟨g, 1, none⟩ = some (.slice A (zl m) c) ∧ w'.cell? ⟨g, 2, none⟩ = some (.int .i64 e) ∧ w'.cell? ⟨g, 3, none⟩ = some (.bool (ng n)) ∧ w'.cell? ⟨g, 4, none⟩ = some (.slice B (zl n) d) ∧ w'.cell? ⟨g, 5, none⟩ = some (.int .i64 f) ∧ w'.cell? ⟨g3, 0, none⟩ = some (.bool (ng U)) ∧ w'.cell? ⟨g3, 1, none⟩ = some (.slice A3 (zl U) c3) ∧ w'.cell? ⟨g3, 2, none⟩ = some (.int .i64 P) ∧ w'.cell? ⟨g4, 0, none⟩ = some (.bool (ng M)) ∧ w'.cell? ⟨g4, 1, none⟩ = some (.slice A4 (zl M) c4) ∧ w'.cell? ⟨g4, 2, none⟩ = some (.int .i64 E) ∧ w'.cell? ⟨g5, 0, none⟩ = some (.bool (ng U)) ∧ w'.cell? ⟨g5, 1, none⟩ = some (.slice A5 (zl U) c5) ∧ w'.cell? ⟨g5, 2, none⟩ = some (.int .i64 P) ∧ w'.cell? ⟨g6, 0, none⟩ = some (.bool (ng M)) ∧ w'.cell? ⟨g6, 1, none⟩ = some (.slice A6 (zl M) c6) ∧ w'.cell? ⟨g6, 2, none⟩ = some (.int .i64 E)) (first | (with_reducible exact ⟨L.tl.tl.tl.tl.b0.c60, L.tl.tl.tl.tl.b0.c61, L.tl.tl.tl.tl.b0.c62, L.tl.tl.tl.tl.b0.c63, L.tl.tl.tl.tl.b0.c64, L.tl.tl.tl.tl.b0.c65, L.tl.tl.tl.b0.c30, L.tl.tl.tl.b0.c31, L.tl.tl.tl.b0.c32, L.tl.tl.b0.c30, L.tl.tl.b0.c31, L.tl.tl.b0.c32, L.tl.b0.c30, L.tl.b0.c31, L.tl.b0.c32, L.b0.c30, L.b0.c31, L.b0.c32⟩) | exact ⟨L.tl.tl.tl.tl.b0.c60, L.tl.tl.tl.tl.b0.c61, L.tl.tl.tl.tl.b0.c62, L.tl.tl.tl.tl.b0.c63, L.tl.tl.tl.tl.b0.c64, L.tl.tl.tl.tl.b0.c65, L.tl.tl.tl.b0.c30, L.tl.tl.tl.b0.c31, L.tl.tl.tl.b0.c32, L.tl.tl.b0.c30, L.tl.tl.b0.c31, L.tl.tl.b0.c32, L.tl.b0.c30, L.tl.b0.c31, L.tl.b0.c32, L.b0.c30, L.b0.c31, L.b0.c32⟩) (first | (go_at_call 12; (with_reducible refine (S1.out _ _ _ ?_ ?_ ).mono ?_); (· (refine isD_n (L.getN ?_); (repeat (first | (with_reducible exact List.mem_cons_self) | apply List.mem_cons_of_mem)))); (· (refine isD_n (L.getN ?_); (repeat (first | (with_reducible exact List.mem_cons_self) | apply List.mem_cons_of_mem)))); rintro e wh ⟨rfl, be⟩; replace L := L.step be; clear be) | (go_at_call 12; (with_reducible refine (S2.out _ _ _ ?_ ?_ ).mono ?_); (· (refine isD_n (L.getN ?_); (repeat (first | (with_reducible exact List.mem_cons_self) | apply List.mem_cons_of_mem)))); (· (refine isD_n (L.getN ?_); (repeat (first | (with_reducible exact List.mem_cons_self) | apply List.mem_cons_of_mem)))); rintro e wh ⟨rfl, be⟩; replace L := L.step be; clear be) | (go_at_call 14; (with_reducible refine (RT.out _ _ ?_ ).mono ?_); (· (refine isD_n (L.getN ?_); (repeat (first | (with_reducible exact List.mem_cons_self) | apply List.mem_cons_of_mem)))); rintro e wh ⟨vh, rfl, iq, be⟩; replace L := (L.step be).q iq; clear be iq) | (go_at_call 13; (with_reducible refine (HA.out _ _ _ ?_ ?_ ).mono ?_); (· (refine isI_n (L.getN ?_) (L.getN ?_) <;> (repeat (first | (with_reducible exact List.mem_cons_self) | apply List.mem_cons_of_mem)))); (· (refine L.getQ ?_; (repeat (first | (with_reducible exact List.mem_cons_self) | apply List.mem_cons_of_mem)))); rintro e wh ⟨rfl, be⟩; replace L := L.step be; clear be))
  clear cel00 cel01 cel02 cel10 cel11 cel12 cel20 cel21 cel22 cel30 cel31 cel32 cel40 cel41 cel42 cel43 cel44 cel45
  go_wp2_with fail
  go_ret
  exact ⟨rfl, L.below⟩

end Go.Proofs.YtgcmdlannbobgaaDoor
