/- The walk of IntervalMeets: whatever the input, the law returns true and turns nothing that was there. -/
import Derived.Test.YtgcmdlannbobgaaAwake10
import Derived.Test.YtgcmdlannbobgaaIvMath2
import Derived.Test.YtgcmdlannbobgaaMillTwoI
import Derived.Test.YtgcmdlannbobgaaBaseF
import Derived.Deep.RegionHeld3
import Derived.Deep.DrawnRows
namespace Go.Proofs.Ytgcmdlannbobgaa
open Go.RowKit
set_option linter.unusedVariables false
set_option linter.unusedSimpArgs false
set_option maxRecDepth 100000
attribute [local go_sem ↓] Go.wp_at_zero Go.wp_at_succ

set_option maxHeartbeats 16000000 in
theorem walk_IntervalMeets (b0 : Bool) (a0 : Option Addr) (len0 cap0 : Nat) (z0 : List Nat) (f0 : Int) (bb0 : Bool) (aa0 : Option Addr) (ll0 cc0 : Nat) (zz0 : List Nat) (ff0 : Int) (b1 : Bool) (a1 : Option Addr) (len1 cap1 : Nat) (z1 : List Nat) (f1 : Int) (bb1 : Bool) (aa1 : Option Addr) (ll1 cc1 : Nat) (zz1 : List Nat) (ff1 : Int) (b2 : Bool) (a2 : Option Addr) (len2 cap2 : Nat) (z2 : List Nat) (x2 : Option Addr) (nen2 nap2 : Nat) (y2 : List Nat) (w : World) (h0 : Sl w a0 len0 cap0 z0 ∧ -9223372036854775808 ≤ f0 ∧ f0 ≤ 9223372036854775807) (k0 : Sl w aa0 ll0 cc0 zz0 ∧ -9223372036854775808 ≤ ff0 ∧ ff0 ≤ 9223372036854775807) (h1 : Sl w a1 len1 cap1 z1 ∧ -9223372036854775808 ≤ f1 ∧ f1 ≤ 9223372036854775807) (k1 : Sl w aa1 ll1 cc1 zz1 ∧ -9223372036854775808 ≤ ff1 ∧ ff1 ≤ 9223372036854775807) (h2 : Sl w a2 len2 cap2 z2 ∧ Sl w x2 nen2 nap2 y2) :
    Calls Try.prog 5 #[.agg #[.bool b0, .slice a0 len0 cap0, .int .i64 f0, .bool bb0, .slice aa0 ll0 cc0, .int .i64 ff0], .agg #[.bool b1, .slice a1 len1 cap1, .int .i64 f1, .bool bb1, .slice aa1 ll1 cc1, .int .i64 ff1], .agg #[.bool b2, .slice a2 len2 cap2, .slice x2 nen2 nap2]] w (fun e w' => e = .returned (.bool true) ∧ Below w.heap.size w w') := by
  go_enter Try.func5, Try.ntmps5
  go_wp2_with fail
  have L := ((((Lq.mk0 w).varI (w.heap.size) (by simp) b0 a0 len0 cap0 f0 bb0 aa0 ll0 cc0 ff0).varI (w.heap.size + 1) (by simp) b1 a1 len1 cap1 f1 bb1 aa1 ll1 cc1 ff1).varQ (w.heap.size + 2) (by simp) b2 a2 x2 len2 cap2 nen2 nap2)
  (try go_wp2_with fail)
  refine (awake10_any _).mono ?_
  rintro e9 w1 ⟨rfl, be⟩
  replace L := L.step be
  clear be
  have c00 := L.b0.c30
  have c01 := L.b0.c31
  have c02 := L.b0.c32
  have c10 := L.tl.b0.c60
  have c11 := L.tl.b0.c61
  have c12 := L.tl.b0.c62
  have c13 := L.tl.b0.c63
  have c14 := L.tl.b0.c64
  have c15 := L.tl.b0.c65
  have c20 := L.tl.tl.b0.c60
  have c21 := L.tl.tl.b0.c61
  have c22 := L.tl.tl.b0.c62
  have c23 := L.tl.tl.b0.c63
  have c24 := L.tl.tl.b0.c64
  have c25 := L.tl.tl.b0.c65
  (try go_wp2_with fail)
  refine (two10_any b0 bb0 z0 zz0 a0 aa0 len0 cap0 ll0 cc0 f0 ff0 b1 bb1 z1 zz1 a1 aa1 len1 cap1 ll1 cc1 f1 ff1 _ (h0.1.mono L.below) (k0.1.mono L.below) h0.2 k0.2 (h1.1.mono L.below) (k1.1.mono L.below) h1.2 k1.2).mono ?_
  rintro e9 w2 ⟨vx, vy, ok, m, e, n, f, m2, e2, n2, f2, rfl, ix, iy, ⟨lm, he⟩, ⟨ln, hf⟩, ⟨lm2, he2⟩, ⟨ln2, hf2⟩, hv, le1, le2, be⟩
  clear c00 c01 c02 c10 c11 c12 c13 c14 c15 c20 c21 c22 c23 c24 c25
  obtain ⟨A, c, B, d, rfl, i1, i2⟩ := ix.form
  obtain ⟨A2, k2, B2, d2, rfl, i3, i4⟩ := iy.form
  replace L := ((((L.step be).n i4).n i3).n i2).n i1
  clear be ix iy i1 i2 i3 i4
  have hlt0 := L.b0.lt
  replace L := (L.varI w2.heap.size rfl (ng m) A (zl m) c e (ng n) B (zl n) d f).varI (w2.heap.size + 1) (by simp) (ng m2) A2 (zl m2) k2 e2 (ng n2) B2 (zl n2) d2 f2
  have c20 := L.tl.tl.b0.c30
  have c21 := L.tl.tl.b0.c31
  have c22 := L.tl.tl.b0.c32
  (try go_wp2_with fail)
  obtain ⟨g, hg⟩ : ∃ g, w2.heap.size = g := ⟨_, rfl⟩
  rw [hg] at L hlt0 ⊢
  clear hg
  refine (millRat_any b2 z2 y2 5 a2 x2 len2 cap2 nen2 nap2 _ (h2.1.mono L.below) (h2.2.mono L.below) (by omega)).mono ?_
  rintro e9 w3 ⟨vq, fine, a, q, rfl, iq, la, lq, hvq, be⟩
  clear c20 c21 c22
  replace L := (L.step be).q iq
  obtain ⟨C, u9, H, i9, rfl, _, _, _⟩ := iq.form
  clear be iq
  have hlt2 := L.b0.lt
  replace L := L.varQ w3.heap.size rfl (ng a) C H (zl a) u9 (len q) i9
  cases ok
  · go_wp2_with fail
    go_ret
    exact ⟨rfl, L.below⟩
  cases fine
  · go_wp2_with fail
    go_ret
    exact ⟨rfl, L.below⟩
  obtain ⟨v1, v2, v3, v4⟩ := hv (by first | trivial | rfl)
  have hd0 : 0 < q := by obtain ⟨q9, _, e1⟩ := hvq (by first | trivial | rfl); rw [e1]; exact den_pos' q9
  clear hv hvq
  have m1 := fun v u W h1 h2 => i10meet_any m e n f m2 e2 n2 f2 v u W h1 h2 (by omega) (by omega) (by omega) (by omega) (by omega) (by omega) (by omega) (by omega) v1 v2 v3 v4
  have m2' := fun v u W h1 h2 => r10meet_any m e n f m2 e2 n2 f2 v u W h1 h2 (by omega) (by omega) (by omega) (by omega) (by omega) (by omega) (by omega) (by omega) v1 v2 v3 v4
  have l1 := fun v u W h1 h2 => i10hull_any m e n f m2 e2 n2 f2 v u W h1 h2 (by omega) (by omega) (by omega) (by omega) (by omega) (by omega) (by omega) (by omega) v1 v2 v3 v4
  have l2 := fun v u W h1 h2 => r10hull_any m e n f m2 e2 n2 f2 v u W h1 h2 (by omega) (by omega) (by omega) (by omega) (by omega) (by omega) (by omega) (by omega)
  have c1 := fun v u W h1 h2 => i10cmp_any m e n f m2 e2 n2 f2 v u W h1 h2 (by omega) (by omega) (by omega) (by omega) (by omega) (by omega) (by omega) (by omega)
  have a1 := fun v u W h1 h2 => i10has_any m e n f a q v u W h1 h2 (by omega) (by omega) (by omega) (by omega) (by omega) (by omega)
  have a2 := fun v u W h1 h2 => i10has_any m2 e2 n2 f2 a q v u W h1 h2 (by omega) (by omega) (by omega) (by omega) (by omega) (by omega)
  have gz := gstD_zl (k := 1000) (show zl m ≤ 1000 by omega) (show zl m2 ≤ 1000 by omega) (e := e) (f := e2)
  have lz := lstD_zl (k := 1000) (show zl n ≤ 1000 by omega) (show zl n2 ≤ 1000 by omega) (e := f) (f := f2)
  have gi := gstD_in (a := -20000) (b := 20000) (show -20000 ≤ e ∧ e ≤ 20000 by omega) (show -20000 ≤ e2 ∧ e2 ≤ 20000 by omega) (m := m) (n := m2)
  have li := lstD_in (a := -20000) (b := 20000) (show -20000 ≤ f ∧ f ≤ 20000 by omega) (show -20000 ≤ f2 ∧ f2 ≤ 20000 by omega) (m := n) (n := n2)
  have gz' := gstD_zl (k := 1000) (show zl n ≤ 1000 by omega) (show zl n2 ≤ 1000 by omega) (e := f) (f := f2)
  have lz' := lstD_zl (k := 1000) (show zl m ≤ 1000 by omega) (show zl m2 ≤ 1000 by omega) (e := e) (f := e2)
  have gi' := gstD_in (a := -20000) (b := 20000) (show -20000 ≤ f ∧ f ≤ 20000 by omega) (show -20000 ≤ f2 ∧ f2 ≤ 20000 by omega) (m := n) (n := n2)
  have li' := lstD_in (a := -20000) (b := 20000) (show -20000 ≤ e ∧ e ≤ 20000 by omega) (show -20000 ≤ e2 ∧ e2 ≤ 20000 by omega) (m := m) (n := m2)
  have hmt := mt_icm le1 le2
  have hmh := meet_has m e n f m2 e2 n2 f2 a q hd0
  have hul := hull_in m e n f m2 e2 n2 f2
  unfold RetMt at m1 m2'
  obtain ⟨um, ue, hu⟩ : ∃ x y, gstD m e m2 e2 = (x, y) := ⟨_, _, rfl⟩
  obtain ⟨zm, ze, hz⟩ : ∃ x y, lstD n f n2 f2 = (x, y) := ⟨_, _, rfl⟩
  obtain ⟨pm, pe, hp⟩ : ∃ x y, lstD m e m2 e2 = (x, y) := ⟨_, _, rfl⟩
  obtain ⟨rm, re, hr⟩ : ∃ x y, gstD n f n2 f2 = (x, y) := ⟨_, _, rfl⟩
  rw [hu, hz] at m1 m2' hmh
  rw [hp, hr] at l1 l2 hul
  rw [hu] at gz gi
  rw [hz] at lz li
  rw [hr] at gz' gi'
  rw [hp] at lz' li'
  simp only at m1 m2' l1 l2 hmh hul gz gi lz li gz' gi' lz' li'
  have a3 := fun v u W h1 h2 => i10has_any um ue zm ze a q v u W h1 h2 gz lz gi li (by omega) (by omega)
  have w1 := fun v u W h1 h2 => i10within_any m e n f pm pe rm re v u W h1 h2 (by omega) (by omega) lz' gz' (by omega) (by omega) li' gi'
  have w2 := fun v u W h1 h2 => i10within_any m2 e2 n2 f2 pm pe rm re v u W h1 h2 (by omega) (by omega) lz' gz' (by omega) (by omega) li' gi'
  rw [hul.1] at w1
  rw [hul.2] at w2
  have sm := fun v u W h1 h2 => r10same_any um ue zm ze um ue zm ze v u W h1 h2 gz lz gz lz gi li gi li
  have sh := fun v u W h1 h2 => r10same_any pm pe rm re pm pe rm re v u W h1 h2 lz' gz' lz' gz' li' gi' li' gi'
  have sz := fun v u W h1 h2 => r10same_any 0 0 0 0 0 0 0 0 v u W h1 h2 zl0 zl0 zl0 zl0 (by omega) (by omega) (by omega) (by omega)
  rw [show ((decide (ue = ue) && decide (um = um)) && (decide (ze = ze) && decide (zm = zm))) = true from by simp] at sm
  rw [show ((decide (pe = pe) && decide (pm = pm)) && (decide (re = re) && decide (rm = rm))) = true from by simp] at sh
  rw [show ((decide ((0 : Int) = 0) && decide ((0 : Int) = 0)) && (decide ((0 : Int) = 0) && decide ((0 : Int) = 0))) = true from rfl] at sz
  obtain ⟨K, hK⟩ : ∃ K, icm m e n f m2 e2 n2 f2 = K := ⟨_, rfl⟩
  rw [hK] at c1 hmt
  obtain ⟨b, hb⟩ : ∃ b, mtB m e n f m2 e2 n2 f2 = b := ⟨_, rfl⟩
  rw [hb] at m1 m2' hmt hmh
  obtain ⟨hx, hhx⟩ : ∃ b, hasB m e n f a q = b := ⟨_, rfl⟩
  obtain ⟨hy, hhy⟩ : ∃ b, hasB m2 e2 n2 f2 a q = b := ⟨_, rfl⟩
  obtain ⟨hm, hhm⟩ : ∃ b, hasB um ue zm ze a q = b := ⟨_, rfl⟩
  rw [hhx] at a1 hmh
  rw [hhy] at a2 hmh
  rw [hhm] at a3 hmh
  have hKb : (K == 0) = b := hmt.symm
  have qb : (b != b) = false := by simp
  clear hmt hK hb hhx hhy hhm hu hz hp hr gz lz gi li gz' lz' gi' li' hul le1 le2 lm ln lm2 ln2 he hf he2 hf2 v1 v2 v3 v4 hd0 la lq
  have c00 := L.b0.c30
  have c01 := L.b0.c31
  have c02 := L.b0.c32
  have c10 := L.tl.b0.c60
  have c11 := L.tl.b0.c61
  have c12 := L.tl.b0.c62
  have c13 := L.tl.b0.c63
  have c14 := L.tl.b0.c64
  have c15 := L.tl.b0.c65
  have c20 := L.tl.tl.b0.c60
  have c21 := L.tl.tl.b0.c61
  have c22 := L.tl.tl.b0.c62
  have c23 := L.tl.tl.b0.c63
  have c24 := L.tl.tl.b0.c64
  have c25 := L.tl.tl.b0.c65
  go_wp2_with fail
  obtain ⟨g3, hg⟩ : ∃ g, w3.heap.size = g := ⟨_, rfl⟩
  rw [hg] at L hlt2 c00 c01 c02 ⊢
  clear hg
  rcases (show b = true ∨ b = false by cases b <;> simp) with rfl | rfl
  · simp only [↓reduceIte, Bool.false_eq_true] at m1 m2'
    have MT1 := Lib.hid m1
    have MT2 := Lib.hid m2'
    have HL1 := Lib.hid l1
    have HL2 := Lib.hid l2
    have CM := Lib.hid c1
    have HA1 := Lib.hid a1
    have HA2 := Lib.hid a2
    have HA3 := Lib.hid a3
    have W1 := Lib.hid w1
    have W2 := Lib.hid w2
    have SM := Lib.hid sm
    have SH := Lib.hid sh
    have SZ := Lib.hid sz
    clear m1 m2' l1 l2 c1 a1 a2 a3 w1 w2 sm sh sz
    have c10 := L.tl.b0.c60
    have c11 := L.tl.b0.c61
    have c12 := L.tl.b0.c62
    have c13 := L.tl.b0.c63
    have c14 := L.tl.b0.c64
    have c15 := L.tl.b0.c65
    have c20 := L.tl.tl.b0.c60
    have c21 := L.tl.tl.b0.c61
    have c22 := L.tl.tl.b0.c62
    have c23 := L.tl.tl.b0.c63
    have c24 := L.tl.tl.b0.c64
    have c25 := L.tl.tl.b0.c65
    refine (MT1.out _ _ _ (isI_n (m := m) (e := e) (n := n) (f := f) (s := .slice A (zl m) c) (t := .slice B (zl n) d) (L.getN (by simp)) (L.getN (by simp))) (isI_n (m := m2) (e := e2) (n := n2) (f := f2) (s := .slice A2 (zl m2) k2) (t := .slice B2 (zl n2) d2) (L.getN (by simp)) (L.getN (by simp)))).mono ?_
    rintro e w4 ⟨vv, rfl, ii, be⟩
    clear c10 c11 c12 c13 c14 c15 c20 c21 c22 c23 c24 c25
    obtain ⟨A5, c5, B5, d5, rfl, ia, ib⟩ := ii.form
    replace L := ((L.step be).n ib).n ia
    clear be ii ia ib
    have hlg5 := L.b0.lt
    replace L := L.varI w4.heap.size rfl (ng um) A5 (zl um) c5 ue (ng zm) B5 (zl zm) d5 ze
    have c20 := L.tl.tl.b0.c60
    have c21 := L.tl.tl.b0.c61
    have c22 := L.tl.tl.b0.c62
    have c23 := L.tl.tl.b0.c63
    have c24 := L.tl.tl.b0.c64
    have c25 := L.tl.tl.b0.c65
    have c30 := L.tl.tl.tl.b0.c60
    have c31 := L.tl.tl.tl.b0.c61
    have c32 := L.tl.tl.tl.b0.c62
    have c33 := L.tl.tl.tl.b0.c63
    have c34 := L.tl.tl.tl.b0.c64
    have c35 := L.tl.tl.tl.b0.c65
    go_wp2_with fail
    obtain ⟨g5, hg⟩ : ∃ g, w4.heap.size = g := ⟨_, rfl⟩
    rw [hg] at L hlg5 ⊢
    clear hg
    refine (MT2.out _ _ _ (isI_n (m := m) (e := e) (n := n) (f := f) (s := .slice A (zl m) c) (t := .slice B (zl n) d) (L.getN (by simp)) (L.getN (by simp))) (isI_n (m := m2) (e := e2) (n := n2) (f := f2) (s := .slice A2 (zl m2) k2) (t := .slice B2 (zl n2) d2) (L.getN (by simp)) (L.getN (by simp)))).mono ?_
    rintro e w5 ⟨vv, rfl, ii, be⟩
    clear c20 c21 c22 c23 c24 c25 c30 c31 c32 c33 c34 c35
    obtain ⟨A6, c6, B6, d6, rfl, ia, ib⟩ := ii.form
    replace L := ((L.step be).n ib).n ia
    clear be ii ia ib
    have hlg6 := L.b0.lt
    replace L := L.varI w5.heap.size rfl (ng um) A6 (zl um) c6 ue (ng zm) B6 (zl zm) d6 ze
    have c30 := L.tl.tl.tl.b0.c60
    have c31 := L.tl.tl.tl.b0.c61
    have c32 := L.tl.tl.tl.b0.c62
    have c33 := L.tl.tl.tl.b0.c63
    have c34 := L.tl.tl.tl.b0.c64
    have c35 := L.tl.tl.tl.b0.c65
    have c40 := L.tl.tl.tl.tl.b0.c60
    have c41 := L.tl.tl.tl.tl.b0.c61
    have c42 := L.tl.tl.tl.tl.b0.c62
    have c43 := L.tl.tl.tl.tl.b0.c63
    have c44 := L.tl.tl.tl.tl.b0.c64
    have c45 := L.tl.tl.tl.tl.b0.c65
    go_wp2_with fail
    obtain ⟨g6, hg⟩ : ∃ g, w5.heap.size = g := ⟨_, rfl⟩
    rw [hg] at L hlg6 ⊢
    clear hg
    refine (HL1.out _ _ _ (isI_n (m := m) (e := e) (n := n) (f := f) (s := .slice A (zl m) c) (t := .slice B (zl n) d) (L.getN (by simp)) (L.getN (by simp))) (isI_n (m := m2) (e := e2) (n := n2) (f := f2) (s := .slice A2 (zl m2) k2) (t := .slice B2 (zl n2) d2) (L.getN (by simp)) (L.getN (by simp)))).mono ?_
    rintro e w6 ⟨vv, rfl, ii, be⟩
    clear c30 c31 c32 c33 c34 c35 c40 c41 c42 c43 c44 c45
    obtain ⟨A7, c7, B7, d7, rfl, ia, ib⟩ := ii.form
    replace L := ((L.step be).n ib).n ia
    clear be ii ia ib
    have hlg7 := L.b0.lt
    replace L := L.varI w6.heap.size rfl (ng pm) A7 (zl pm) c7 pe (ng rm) B7 (zl rm) d7 re
    have c00 := L.b0.c60
    have c01 := L.b0.c61
    have c02 := L.b0.c62
    have c03 := L.b0.c63
    have c04 := L.b0.c64
    have c05 := L.b0.c65
    have c10 := L.tl.b0.c60
    have c11 := L.tl.b0.c61
    have c12 := L.tl.b0.c62
    have c13 := L.tl.b0.c63
    have c14 := L.tl.b0.c64
    have c15 := L.tl.b0.c65
    have c20 := L.tl.tl.b0.c60
    have c21 := L.tl.tl.b0.c61
    have c22 := L.tl.tl.b0.c62
    have c23 := L.tl.tl.b0.c63
    have c24 := L.tl.tl.b0.c64
    have c25 := L.tl.tl.b0.c65
    have c40 := L.tl.tl.tl.tl.b0.c60
    have c41 := L.tl.tl.tl.tl.b0.c61
    have c42 := L.tl.tl.tl.tl.b0.c62
    have c43 := L.tl.tl.tl.tl.b0.c63
    have c44 := L.tl.tl.tl.tl.b0.c64
    have c45 := L.tl.tl.tl.tl.b0.c65
    have c50 := L.tl.tl.tl.tl.tl.b0.c60
    have c51 := L.tl.tl.tl.tl.tl.b0.c61
    have c52 := L.tl.tl.tl.tl.tl.b0.c62
    have c53 := L.tl.tl.tl.tl.tl.b0.c63
    have c54 := L.tl.tl.tl.tl.tl.b0.c64
    have c55 := L.tl.tl.tl.tl.tl.b0.c65
    go_wp2_with fail
    obtain ⟨g7, hg⟩ : ∃ g, w6.heap.size = g := ⟨_, rfl⟩
    rw [hg] at L hlg7 c00 c01 c02 c03 c04 c05 ⊢
    clear hg
    replace L := L.drew
    clear c00 c01 c02 c03 c04 c05 c10 c11 c12 c13 c14 c15 c20 c21 c22 c23 c24 c25 c40 c41 c42 c43 c44 c45 c50 c51 c52 c53 c54 c55
    have c00 := L.b0.c60
    have c01 := L.b0.c61
    have c02 := L.b0.c62
    have c03 := L.b0.c63
    have c04 := L.b0.c64
    have c05 := L.b0.c65
    have c10 := L.tl.b0.c60
    have c11 := L.tl.b0.c61
    have c12 := L.tl.b0.c62
    have c13 := L.tl.b0.c63
    have c14 := L.tl.b0.c64
    have c15 := L.tl.b0.c65
    have c20 := L.tl.tl.b0.c60
    have c21 := L.tl.tl.b0.c61
    have c22 := L.tl.tl.b0.c62
    have c23 := L.tl.tl.b0.c63
    have c24 := L.tl.tl.b0.c64
    have c25 := L.tl.tl.b0.c65
    have c40 := L.tl.tl.tl.tl.b0.c60
    have c41 := L.tl.tl.tl.tl.b0.c61
    have c42 := L.tl.tl.tl.tl.b0.c62
    have c43 := L.tl.tl.tl.tl.b0.c63
    have c44 := L.tl.tl.tl.tl.b0.c64
    have c45 := L.tl.tl.tl.tl.b0.c65
    have c50 := L.tl.tl.tl.tl.tl.b0.c60
    have c51 := L.tl.tl.tl.tl.tl.b0.c61
    have c52 := L.tl.tl.tl.tl.tl.b0.c62
    have c53 := L.tl.tl.tl.tl.tl.b0.c63
    have c54 := L.tl.tl.tl.tl.tl.b0.c64
    have c55 := L.tl.tl.tl.tl.tl.b0.c65
    go_region_held3 (fun w' => w'.cell? ⟨g, 0, none⟩ = some (.bool (ng m)) ∧ w'.cell? ⟨g, 1, none⟩ = some (.slice A (zl m) c) ∧ w'.cell? ⟨g, 2, none⟩ = some (.int .i64 e) ∧ w'.cell? ⟨g, 3, none⟩ = some (.bool (ng n)) ∧ w'.cell? ⟨g, 4, none⟩ = some (.slice B (zl n) d) ∧ w'.cell? ⟨g, 5, none⟩ = some (.int .i64 f) ∧ w'.cell? ⟨g + 1, 0, none⟩ = some (.bool (ng m2)) ∧ w'.cell? ⟨g + 1, 1, none⟩ = some (.slice A2 (zl m2) k2) ∧ w'.cell? ⟨g + 1, 2, none⟩ = some (.int .i64 e2) ∧ w'.cell? ⟨g + 1, 3, none⟩ = some (.bool (ng n2)) ∧ w'.cell? ⟨g + 1, 4, none⟩ = some (.slice B2 (zl n2) d2) ∧ w'.cell? ⟨g + 1, 5, none⟩ = some (.int .i64 f2) ∧ w'.cell? ⟨g5, 0, none⟩ = some (.bool (ng um)) ∧ w'.cell? ⟨g5, 1, none⟩ = some (.slice A5 (zl um) c5) ∧ w'.cell? ⟨g5, 2, none⟩ = some (.int .i64 ue) ∧ w'.cell? ⟨g5, 3, none⟩ = some (.bool (ng zm)) ∧ w'.cell? ⟨g5, 4, none⟩ = some (.slice B5 (zl zm) d5) ∧ w'.cell? ⟨g5, 5, none⟩ = some (.int .i64 ze) ∧ w'.cell? ⟨g6, 0, none⟩ = some (.bool (ng um)) ∧ w'.cell? ⟨g6, 1, none⟩ = some (.slice A6 (zl um) c6) ∧ w'.cell? ⟨g6, 2, none⟩ = some (.int .i64 ue) ∧ w'.cell? ⟨g6, 3, none⟩ = some (.bool (ng zm)) ∧ w'.cell? ⟨g6, 4, none⟩ = some (.slice B6 (zl zm) d6) ∧ w'.cell? ⟨g6, 5, none⟩ = some (.int .i64 ze) ∧ w'.cell? ⟨g7, 0, none⟩ = some (.bool (ng pm)) ∧ w'.cell? ⟨g7, 1, none⟩ = some (.slice A7 (zl pm) c7) ∧ w'.cell? ⟨g7, 2, none⟩ = some (.int .i64 pe) ∧ w'.cell? ⟨g7, 3, none⟩ = some (.bool (ng rm)) ∧ w'.cell? ⟨g7, 4, none⟩ = some (.slice B7 (zl rm) d7) ∧ w'.cell? ⟨g7, 5, none⟩ = some (.int .i64 re)) (first | (with_reducible exact ⟨L.tl.tl.tl.tl.tl.b0.c60, L.tl.tl.tl.tl.tl.b0.c61, L.tl.tl.tl.tl.tl.b0.c62, L.tl.tl.tl.tl.tl.b0.c63, L.tl.tl.tl.tl.tl.b0.c64, L.tl.tl.tl.tl.tl.b0.c65, L.tl.tl.tl.tl.b0.c60, L.tl.tl.tl.tl.b0.c61, L.tl.tl.tl.tl.b0.c62, L.tl.tl.tl.tl.b0.c63, L.tl.tl.tl.tl.b0.c64, L.tl.tl.tl.tl.b0.c65, L.tl.tl.b0.c60, L.tl.tl.b0.c61, L.tl.tl.b0.c62, L.tl.tl.b0.c63, L.tl.tl.b0.c64, L.tl.tl.b0.c65, L.tl.b0.c60, L.tl.b0.c61, L.tl.b0.c62, L.tl.b0.c63, L.tl.b0.c64, L.tl.b0.c65, L.b0.c60, L.b0.c61, L.b0.c62, L.b0.c63, L.b0.c64, L.b0.c65⟩) | exact ⟨L.tl.tl.tl.tl.tl.b0.c60, L.tl.tl.tl.tl.tl.b0.c61, L.tl.tl.tl.tl.tl.b0.c62, L.tl.tl.tl.tl.tl.b0.c63, L.tl.tl.tl.tl.tl.b0.c64, L.tl.tl.tl.tl.tl.b0.c65, L.tl.tl.tl.tl.b0.c60, L.tl.tl.tl.tl.b0.c61, L.tl.tl.tl.tl.b0.c62, L.tl.tl.tl.tl.b0.c63, L.tl.tl.tl.tl.b0.c64, L.tl.tl.tl.tl.b0.c65, L.tl.tl.b0.c60, L.tl.tl.b0.c61, L.tl.tl.b0.c62, L.tl.tl.b0.c63, L.tl.tl.b0.c64, L.tl.tl.b0.c65, L.tl.b0.c60, L.tl.b0.c61, L.tl.b0.c62, L.tl.b0.c63, L.tl.b0.c64, L.tl.b0.c65, L.b0.c60, L.b0.c61, L.b0.c62, L.b0.c63, L.b0.c64, L.b0.c65⟩) (first | (go_at_call 14; (with_reducible refine (SM.out _ _ _ ?_ ?_ ).mono ?_); (· (refine isI_n (L.getN ?_) (L.getN ?_) <;> (repeat (first | (with_reducible exact List.mem_cons_self) | apply List.mem_cons_of_mem)))); (· (refine isI_n (L.getN ?_) (L.getN ?_) <;> (repeat (first | (with_reducible exact List.mem_cons_self) | apply List.mem_cons_of_mem)))); rintro e wh ⟨rfl, be⟩; replace L := L.step be; clear be) | (go_at_call 26; (with_reducible refine (HL2.out _ _ _ ?_ ?_ ).mono ?_); (· (refine isI_n (L.getN ?_) (L.getN ?_) <;> (repeat (first | (with_reducible exact List.mem_cons_self) | apply List.mem_cons_of_mem)))); (· (refine isI_n (L.getN ?_) (L.getN ?_) <;> (repeat (first | (with_reducible exact List.mem_cons_self) | apply List.mem_cons_of_mem)))); rintro e wh ⟨vh, rfl, ii, be⟩; obtain ⟨A9, c9, B9, d9, rfl, ia, ib⟩ := ii.form; replace L := ((L.step be).n ib).n ia; clear be ii ia ib) | (go_at_call 27; (with_reducible refine (CM.out _ _ _ ?_ ?_ ).mono ?_); (· (refine isI_n (L.getN ?_) (L.getN ?_) <;> (repeat (first | (with_reducible exact List.mem_cons_self) | apply List.mem_cons_of_mem)))); (· (refine isI_n (L.getN ?_) (L.getN ?_) <;> (repeat (first | (with_reducible exact List.mem_cons_self) | apply List.mem_cons_of_mem)))); rintro e wh ⟨rfl, be⟩; replace L := L.step be; clear be) | (go_at_call 14; (with_reducible refine (SH.out _ _ _ ?_ ?_ ).mono ?_); (· (refine isI_n (L.getN ?_) (L.getN ?_) <;> (repeat (first | (with_reducible exact List.mem_cons_self) | apply List.mem_cons_of_mem)))); (· (refine isI_n (L.getN ?_) (L.getN ?_) <;> (repeat (first | (with_reducible exact List.mem_cons_self) | apply List.mem_cons_of_mem)))); rintro e wh ⟨rfl, be⟩; replace L := L.step be; clear be))
    clear c00 c01 c02 c03 c04 c05 c10 c11 c12 c13 c14 c15 c20 c21 c22 c23 c24 c25 c40 c41 c42 c43 c44 c45 c50 c51 c52 c53 c54 c55
    have c30 := L.tl.tl.tl.b0.c30
    have c31 := L.tl.tl.tl.b0.c31
    have c32 := L.tl.tl.tl.b0.c32
    have c40 := L.tl.tl.tl.tl.b0.c60
    have c41 := L.tl.tl.tl.tl.b0.c61
    have c42 := L.tl.tl.tl.tl.b0.c62
    have c43 := L.tl.tl.tl.tl.b0.c63
    have c44 := L.tl.tl.tl.tl.b0.c64
    have c45 := L.tl.tl.tl.tl.b0.c65
    have c50 := L.tl.tl.tl.tl.tl.b0.c60
    have c51 := L.tl.tl.tl.tl.tl.b0.c61
    have c52 := L.tl.tl.tl.tl.tl.b0.c62
    have c53 := L.tl.tl.tl.tl.tl.b0.c63
    have c54 := L.tl.tl.tl.tl.tl.b0.c64
    have c55 := L.tl.tl.tl.tl.tl.b0.c65
    go_wp2_with fail
    refine (HA1.out _ _ _ (isI_n (m := m) (e := e) (n := n) (f := f) (s := .slice A (zl m) c) (t := .slice B (zl n) d) (L.getN (by simp)) (L.getN (by simp))) (L.getQ (v := .agg #[.bool (ng a), .slice C (zl a) u9, .slice H (len q) i9]) (a := a) (d := q) (by simp))).mono ?_
    rintro e w71 ⟨rfl, be⟩
    clear c30 c31 c32 c40 c41 c42 c43 c44 c45 c50 c51 c52 c53 c54 c55
    replace L := L.step be
    clear be
    cases hx
    · skip
      have hfin : hm = false := by simpa using hmh.symm
      subst hfin
      have c20 := L.tl.tl.b0.c60
      have c21 := L.tl.tl.b0.c61
      have c22 := L.tl.tl.b0.c62
      have c23 := L.tl.tl.b0.c63
      have c24 := L.tl.tl.b0.c64
      have c25 := L.tl.tl.b0.c65
      have c30 := L.tl.tl.tl.b0.c30
      have c31 := L.tl.tl.tl.b0.c31
      have c32 := L.tl.tl.tl.b0.c32
      go_wp2_with fail
      refine (HA3.out _ _ _ (isI_n (s := .slice A5 (zl um) c5) (t := .slice B5 (zl zm) d5) (L.getN (by simp)) (L.getN (by simp))) (L.getQ (v := .agg #[.bool (ng a), .slice C (zl a) u9, .slice H (len q) i9]) (a := a) (d := q) (by simp))).mono ?_
      rintro e w72 ⟨rfl, be⟩
      clear c20 c21 c22 c23 c24 c25 c30 c31 c32
      replace L := L.step be
      clear be
      have c00 := L.b0.c60
      have c01 := L.b0.c61
      have c02 := L.b0.c62
      have c03 := L.b0.c63
      have c04 := L.b0.c64
      have c05 := L.b0.c65
      have c50 := L.tl.tl.tl.tl.tl.b0.c60
      have c51 := L.tl.tl.tl.tl.tl.b0.c61
      have c52 := L.tl.tl.tl.tl.tl.b0.c62
      have c53 := L.tl.tl.tl.tl.tl.b0.c63
      have c54 := L.tl.tl.tl.tl.tl.b0.c64
      have c55 := L.tl.tl.tl.tl.tl.b0.c65
      go_wp2_with fail
      refine (W1.out _ _ _ (isI_n (m := m) (e := e) (n := n) (f := f) (s := .slice A (zl m) c) (t := .slice B (zl n) d) (L.getN (by simp)) (L.getN (by simp))) (isI_n (s := .slice A7 (zl pm) c7) (t := .slice B7 (zl rm) d7) (L.getN (by simp)) (L.getN (by simp)))).mono ?_
      rintro e w73 ⟨rfl, be⟩
      clear c00 c01 c02 c03 c04 c05 c50 c51 c52 c53 c54 c55
      replace L := L.step be
      clear be
      have c00 := L.b0.c60
      have c01 := L.b0.c61
      have c02 := L.b0.c62
      have c03 := L.b0.c63
      have c04 := L.b0.c64
      have c05 := L.b0.c65
      have c40 := L.tl.tl.tl.tl.b0.c60
      have c41 := L.tl.tl.tl.tl.b0.c61
      have c42 := L.tl.tl.tl.tl.b0.c62
      have c43 := L.tl.tl.tl.tl.b0.c63
      have c44 := L.tl.tl.tl.tl.b0.c64
      have c45 := L.tl.tl.tl.tl.b0.c65
      go_wp2_with fail
      refine (W2.out _ _ _ (isI_n (m := m2) (e := e2) (n := n2) (f := f2) (s := .slice A2 (zl m2) k2) (t := .slice B2 (zl n2) d2) (L.getN (by simp)) (L.getN (by simp))) (isI_n (s := .slice A7 (zl pm) c7) (t := .slice B7 (zl rm) d7) (L.getN (by simp)) (L.getN (by simp)))).mono ?_
      rintro e w74 ⟨rfl, be⟩
      clear c00 c01 c02 c03 c04 c05 c40 c41 c42 c43 c44 c45
      replace L := L.step be
      clear be
      go_wp2_with fail
      go_ret
      exact ⟨rfl, L.below⟩
    · skip
      have c30 := L.tl.tl.tl.b0.c30
      have c31 := L.tl.tl.tl.b0.c31
      have c32 := L.tl.tl.tl.b0.c32
      have c40 := L.tl.tl.tl.tl.b0.c60
      have c41 := L.tl.tl.tl.tl.b0.c61
      have c42 := L.tl.tl.tl.tl.b0.c62
      have c43 := L.tl.tl.tl.tl.b0.c63
      have c44 := L.tl.tl.tl.tl.b0.c64
      have c45 := L.tl.tl.tl.tl.b0.c65
      have c50 := L.tl.tl.tl.tl.tl.b0.c60
      have c51 := L.tl.tl.tl.tl.tl.b0.c61
      have c52 := L.tl.tl.tl.tl.tl.b0.c62
      have c53 := L.tl.tl.tl.tl.tl.b0.c63
      have c54 := L.tl.tl.tl.tl.tl.b0.c64
      have c55 := L.tl.tl.tl.tl.tl.b0.c65
      go_wp2_with fail
      refine (HA2.out _ _ _ (isI_n (m := m2) (e := e2) (n := n2) (f := f2) (s := .slice A2 (zl m2) k2) (t := .slice B2 (zl n2) d2) (L.getN (by simp)) (L.getN (by simp))) (L.getQ (v := .agg #[.bool (ng a), .slice C (zl a) u9, .slice H (len q) i9]) (a := a) (d := q) (by simp))).mono ?_
      rintro e w72 ⟨rfl, be⟩
      clear c30 c31 c32 c40 c41 c42 c43 c44 c45 c50 c51 c52 c53 c54 c55
      replace L := L.step be
      clear be
      have hfin : hm = hy := by simpa using hmh.symm
      subst hfin
      have qh : (hm == hm) = true := by simp
      have c20 := L.tl.tl.b0.c60
      have c21 := L.tl.tl.b0.c61
      have c22 := L.tl.tl.b0.c62
      have c23 := L.tl.tl.b0.c63
      have c24 := L.tl.tl.b0.c64
      have c25 := L.tl.tl.b0.c65
      have c30 := L.tl.tl.tl.b0.c30
      have c31 := L.tl.tl.tl.b0.c31
      have c32 := L.tl.tl.tl.b0.c32
      go_wp2_with fail
      refine (HA3.out _ _ _ (isI_n (s := .slice A5 (zl um) c5) (t := .slice B5 (zl zm) d5) (L.getN (by simp)) (L.getN (by simp))) (L.getQ (v := .agg #[.bool (ng a), .slice C (zl a) u9, .slice H (len q) i9]) (a := a) (d := q) (by simp))).mono ?_
      rintro e w73 ⟨rfl, be⟩
      clear c20 c21 c22 c23 c24 c25 c30 c31 c32
      replace L := L.step be
      clear be
      have c00 := L.b0.c60
      have c01 := L.b0.c61
      have c02 := L.b0.c62
      have c03 := L.b0.c63
      have c04 := L.b0.c64
      have c05 := L.b0.c65
      have c50 := L.tl.tl.tl.tl.tl.b0.c60
      have c51 := L.tl.tl.tl.tl.tl.b0.c61
      have c52 := L.tl.tl.tl.tl.tl.b0.c62
      have c53 := L.tl.tl.tl.tl.tl.b0.c63
      have c54 := L.tl.tl.tl.tl.tl.b0.c64
      have c55 := L.tl.tl.tl.tl.tl.b0.c65
      go_wp2_with fail
      refine (W1.out _ _ _ (isI_n (m := m) (e := e) (n := n) (f := f) (s := .slice A (zl m) c) (t := .slice B (zl n) d) (L.getN (by simp)) (L.getN (by simp))) (isI_n (s := .slice A7 (zl pm) c7) (t := .slice B7 (zl rm) d7) (L.getN (by simp)) (L.getN (by simp)))).mono ?_
      rintro e w74 ⟨rfl, be⟩
      clear c00 c01 c02 c03 c04 c05 c50 c51 c52 c53 c54 c55
      replace L := L.step be
      clear be
      have c00 := L.b0.c60
      have c01 := L.b0.c61
      have c02 := L.b0.c62
      have c03 := L.b0.c63
      have c04 := L.b0.c64
      have c05 := L.b0.c65
      have c40 := L.tl.tl.tl.tl.b0.c60
      have c41 := L.tl.tl.tl.tl.b0.c61
      have c42 := L.tl.tl.tl.tl.b0.c62
      have c43 := L.tl.tl.tl.tl.b0.c63
      have c44 := L.tl.tl.tl.tl.b0.c64
      have c45 := L.tl.tl.tl.tl.b0.c65
      go_wp2_with fail
      refine (W2.out _ _ _ (isI_n (m := m2) (e := e2) (n := n2) (f := f2) (s := .slice A2 (zl m2) k2) (t := .slice B2 (zl n2) d2) (L.getN (by simp)) (L.getN (by simp))) (isI_n (s := .slice A7 (zl pm) c7) (t := .slice B7 (zl rm) d7) (L.getN (by simp)) (L.getN (by simp)))).mono ?_
      rintro e w75 ⟨rfl, be⟩
      clear c00 c01 c02 c03 c04 c05 c40 c41 c42 c43 c44 c45
      replace L := L.step be
      clear be
      go_wp2_with fail
      go_ret
      exact ⟨rfl, L.below⟩
  · simp only [↓reduceIte, Bool.false_eq_true] at m1 m2'
    have MT1 := Lib.hid m1
    have MT2 := Lib.hid m2'
    have HL1 := Lib.hid l1
    have HL2 := Lib.hid l2
    have CM := Lib.hid c1
    have HA1 := Lib.hid a1
    have HA2 := Lib.hid a2
    have HA3 := Lib.hid a3
    have W1 := Lib.hid w1
    have W2 := Lib.hid w2
    have SM := Lib.hid sm
    have SH := Lib.hid sh
    have SZ := Lib.hid sz
    clear m1 m2' l1 l2 c1 a1 a2 a3 w1 w2 sm sh sz
    have c10 := L.tl.b0.c60
    have c11 := L.tl.b0.c61
    have c12 := L.tl.b0.c62
    have c13 := L.tl.b0.c63
    have c14 := L.tl.b0.c64
    have c15 := L.tl.b0.c65
    have c20 := L.tl.tl.b0.c60
    have c21 := L.tl.tl.b0.c61
    have c22 := L.tl.tl.b0.c62
    have c23 := L.tl.tl.b0.c63
    have c24 := L.tl.tl.b0.c64
    have c25 := L.tl.tl.b0.c65
    refine (MT1.out _ _ _ (isI_n (m := m) (e := e) (n := n) (f := f) (s := .slice A (zl m) c) (t := .slice B (zl n) d) (L.getN (by simp)) (L.getN (by simp))) (isI_n (m := m2) (e := e2) (n := n2) (f := f2) (s := .slice A2 (zl m2) k2) (t := .slice B2 (zl n2) d2) (L.getN (by simp)) (L.getN (by simp)))).mono ?_
    rintro e w4 ⟨vv, rfl, ii, be⟩
    clear c10 c11 c12 c13 c14 c15 c20 c21 c22 c23 c24 c25
    obtain ⟨A5, c5, B5, d5, rfl, ia, ib⟩ := ii.form
    replace L := ((L.step be).n ib).n ia
    clear be ii ia ib
    have hlg5 := L.b0.lt
    replace L := L.varI w4.heap.size rfl (ng 0) A5 (zl 0) c5 0 (ng 0) B5 (zl 0) d5 0
    have c20 := L.tl.tl.b0.c60
    have c21 := L.tl.tl.b0.c61
    have c22 := L.tl.tl.b0.c62
    have c23 := L.tl.tl.b0.c63
    have c24 := L.tl.tl.b0.c64
    have c25 := L.tl.tl.b0.c65
    have c30 := L.tl.tl.tl.b0.c60
    have c31 := L.tl.tl.tl.b0.c61
    have c32 := L.tl.tl.tl.b0.c62
    have c33 := L.tl.tl.tl.b0.c63
    have c34 := L.tl.tl.tl.b0.c64
    have c35 := L.tl.tl.tl.b0.c65
    go_wp2_with fail
    obtain ⟨g5, hg⟩ : ∃ g, w4.heap.size = g := ⟨_, rfl⟩
    rw [hg] at L hlg5 ⊢
    clear hg
    refine (MT2.out _ _ _ (isI_n (m := m) (e := e) (n := n) (f := f) (s := .slice A (zl m) c) (t := .slice B (zl n) d) (L.getN (by simp)) (L.getN (by simp))) (isI_n (m := m2) (e := e2) (n := n2) (f := f2) (s := .slice A2 (zl m2) k2) (t := .slice B2 (zl n2) d2) (L.getN (by simp)) (L.getN (by simp)))).mono ?_
    rintro e w5 ⟨vv, rfl, ii, be⟩
    clear c20 c21 c22 c23 c24 c25 c30 c31 c32 c33 c34 c35
    obtain ⟨A6, c6, B6, d6, rfl, ia, ib⟩ := ii.form
    replace L := ((L.step be).n ib).n ia
    clear be ii ia ib
    have hlg6 := L.b0.lt
    replace L := L.varI w5.heap.size rfl (ng 0) A6 (zl 0) c6 0 (ng 0) B6 (zl 0) d6 0
    have c30 := L.tl.tl.tl.b0.c60
    have c31 := L.tl.tl.tl.b0.c61
    have c32 := L.tl.tl.tl.b0.c62
    have c33 := L.tl.tl.tl.b0.c63
    have c34 := L.tl.tl.tl.b0.c64
    have c35 := L.tl.tl.tl.b0.c65
    have c40 := L.tl.tl.tl.tl.b0.c60
    have c41 := L.tl.tl.tl.tl.b0.c61
    have c42 := L.tl.tl.tl.tl.b0.c62
    have c43 := L.tl.tl.tl.tl.b0.c63
    have c44 := L.tl.tl.tl.tl.b0.c64
    have c45 := L.tl.tl.tl.tl.b0.c65
    go_wp2_with fail
    obtain ⟨g6, hg⟩ : ∃ g, w5.heap.size = g := ⟨_, rfl⟩
    rw [hg] at L hlg6 ⊢
    clear hg
    refine (HL1.out _ _ _ (isI_n (m := m) (e := e) (n := n) (f := f) (s := .slice A (zl m) c) (t := .slice B (zl n) d) (L.getN (by simp)) (L.getN (by simp))) (isI_n (m := m2) (e := e2) (n := n2) (f := f2) (s := .slice A2 (zl m2) k2) (t := .slice B2 (zl n2) d2) (L.getN (by simp)) (L.getN (by simp)))).mono ?_
    rintro e w6 ⟨vv, rfl, ii, be⟩
    clear c30 c31 c32 c33 c34 c35 c40 c41 c42 c43 c44 c45
    obtain ⟨A7, c7, B7, d7, rfl, ia, ib⟩ := ii.form
    replace L := ((L.step be).n ib).n ia
    clear be ii ia ib
    have hlg7 := L.b0.lt
    replace L := L.varI w6.heap.size rfl (ng pm) A7 (zl pm) c7 pe (ng rm) B7 (zl rm) d7 re
    have c00 := L.b0.c60
    have c01 := L.b0.c61
    have c02 := L.b0.c62
    have c03 := L.b0.c63
    have c04 := L.b0.c64
    have c05 := L.b0.c65
    have c10 := L.tl.b0.c60
    have c11 := L.tl.b0.c61
    have c12 := L.tl.b0.c62
    have c13 := L.tl.b0.c63
    have c14 := L.tl.b0.c64
    have c15 := L.tl.b0.c65
    have c20 := L.tl.tl.b0.c60
    have c21 := L.tl.tl.b0.c61
    have c22 := L.tl.tl.b0.c62
    have c23 := L.tl.tl.b0.c63
    have c24 := L.tl.tl.b0.c64
    have c25 := L.tl.tl.b0.c65
    have c40 := L.tl.tl.tl.tl.b0.c60
    have c41 := L.tl.tl.tl.tl.b0.c61
    have c42 := L.tl.tl.tl.tl.b0.c62
    have c43 := L.tl.tl.tl.tl.b0.c63
    have c44 := L.tl.tl.tl.tl.b0.c64
    have c45 := L.tl.tl.tl.tl.b0.c65
    have c50 := L.tl.tl.tl.tl.tl.b0.c60
    have c51 := L.tl.tl.tl.tl.tl.b0.c61
    have c52 := L.tl.tl.tl.tl.tl.b0.c62
    have c53 := L.tl.tl.tl.tl.tl.b0.c63
    have c54 := L.tl.tl.tl.tl.tl.b0.c64
    have c55 := L.tl.tl.tl.tl.tl.b0.c65
    go_wp2_with fail
    obtain ⟨g7, hg⟩ : ∃ g, w6.heap.size = g := ⟨_, rfl⟩
    rw [hg] at L hlg7 c00 c01 c02 c03 c04 c05 ⊢
    clear hg
    replace L := L.drew
    clear c00 c01 c02 c03 c04 c05 c10 c11 c12 c13 c14 c15 c20 c21 c22 c23 c24 c25 c40 c41 c42 c43 c44 c45 c50 c51 c52 c53 c54 c55
    have c00 := L.b0.c60
    have c01 := L.b0.c61
    have c02 := L.b0.c62
    have c03 := L.b0.c63
    have c04 := L.b0.c64
    have c05 := L.b0.c65
    have c10 := L.tl.b0.c60
    have c11 := L.tl.b0.c61
    have c12 := L.tl.b0.c62
    have c13 := L.tl.b0.c63
    have c14 := L.tl.b0.c64
    have c15 := L.tl.b0.c65
    have c20 := L.tl.tl.b0.c60
    have c21 := L.tl.tl.b0.c61
    have c22 := L.tl.tl.b0.c62
    have c23 := L.tl.tl.b0.c63
    have c24 := L.tl.tl.b0.c64
    have c25 := L.tl.tl.b0.c65
    have c40 := L.tl.tl.tl.tl.b0.c60
    have c41 := L.tl.tl.tl.tl.b0.c61
    have c42 := L.tl.tl.tl.tl.b0.c62
    have c43 := L.tl.tl.tl.tl.b0.c63
    have c44 := L.tl.tl.tl.tl.b0.c64
    have c45 := L.tl.tl.tl.tl.b0.c65
    have c50 := L.tl.tl.tl.tl.tl.b0.c60
    have c51 := L.tl.tl.tl.tl.tl.b0.c61
    have c52 := L.tl.tl.tl.tl.tl.b0.c62
    have c53 := L.tl.tl.tl.tl.tl.b0.c63
    have c54 := L.tl.tl.tl.tl.tl.b0.c64
    have c55 := L.tl.tl.tl.tl.tl.b0.c65
    go_region_held3 (fun w' => w'.cell? ⟨g, 0, none⟩ = some (.bool (ng m)) ∧ w'.cell? ⟨g, 1, none⟩ = some (.slice A (zl m) c) ∧ w'.cell? ⟨g, 2, none⟩ = some (.int .i64 e) ∧ w'.cell? ⟨g, 3, none⟩ = some (.bool (ng n)) ∧ w'.cell? ⟨g, 4, none⟩ = some (.slice B (zl n) d) ∧ w'.cell? ⟨g, 5, none⟩ = some (.int .i64 f) ∧ w'.cell? ⟨g + 1, 0, none⟩ = some (.bool (ng m2)) ∧ w'.cell? ⟨g + 1, 1, none⟩ = some (.slice A2 (zl m2) k2) ∧ w'.cell? ⟨g + 1, 2, none⟩ = some (.int .i64 e2) ∧ w'.cell? ⟨g + 1, 3, none⟩ = some (.bool (ng n2)) ∧ w'.cell? ⟨g + 1, 4, none⟩ = some (.slice B2 (zl n2) d2) ∧ w'.cell? ⟨g + 1, 5, none⟩ = some (.int .i64 f2) ∧ w'.cell? ⟨g5, 0, none⟩ = some (.bool (ng 0)) ∧ w'.cell? ⟨g5, 1, none⟩ = some (.slice A5 (zl 0) c5) ∧ w'.cell? ⟨g5, 2, none⟩ = some (.int .i64 0) ∧ w'.cell? ⟨g5, 3, none⟩ = some (.bool (ng 0)) ∧ w'.cell? ⟨g5, 4, none⟩ = some (.slice B5 (zl 0) d5) ∧ w'.cell? ⟨g5, 5, none⟩ = some (.int .i64 0) ∧ w'.cell? ⟨g6, 0, none⟩ = some (.bool (ng 0)) ∧ w'.cell? ⟨g6, 1, none⟩ = some (.slice A6 (zl 0) c6) ∧ w'.cell? ⟨g6, 2, none⟩ = some (.int .i64 0) ∧ w'.cell? ⟨g6, 3, none⟩ = some (.bool (ng 0)) ∧ w'.cell? ⟨g6, 4, none⟩ = some (.slice B6 (zl 0) d6) ∧ w'.cell? ⟨g6, 5, none⟩ = some (.int .i64 0) ∧ w'.cell? ⟨g7, 0, none⟩ = some (.bool (ng pm)) ∧ w'.cell? ⟨g7, 1, none⟩ = some (.slice A7 (zl pm) c7) ∧ w'.cell? ⟨g7, 2, none⟩ = some (.int .i64 pe) ∧ w'.cell? ⟨g7, 3, none⟩ = some (.bool (ng rm)) ∧ w'.cell? ⟨g7, 4, none⟩ = some (.slice B7 (zl rm) d7) ∧ w'.cell? ⟨g7, 5, none⟩ = some (.int .i64 re)) (first | (with_reducible exact ⟨L.tl.tl.tl.tl.tl.b0.c60, L.tl.tl.tl.tl.tl.b0.c61, L.tl.tl.tl.tl.tl.b0.c62, L.tl.tl.tl.tl.tl.b0.c63, L.tl.tl.tl.tl.tl.b0.c64, L.tl.tl.tl.tl.tl.b0.c65, L.tl.tl.tl.tl.b0.c60, L.tl.tl.tl.tl.b0.c61, L.tl.tl.tl.tl.b0.c62, L.tl.tl.tl.tl.b0.c63, L.tl.tl.tl.tl.b0.c64, L.tl.tl.tl.tl.b0.c65, L.tl.tl.b0.c60, L.tl.tl.b0.c61, L.tl.tl.b0.c62, L.tl.tl.b0.c63, L.tl.tl.b0.c64, L.tl.tl.b0.c65, L.tl.b0.c60, L.tl.b0.c61, L.tl.b0.c62, L.tl.b0.c63, L.tl.b0.c64, L.tl.b0.c65, L.b0.c60, L.b0.c61, L.b0.c62, L.b0.c63, L.b0.c64, L.b0.c65⟩) | exact ⟨L.tl.tl.tl.tl.tl.b0.c60, L.tl.tl.tl.tl.tl.b0.c61, L.tl.tl.tl.tl.tl.b0.c62, L.tl.tl.tl.tl.tl.b0.c63, L.tl.tl.tl.tl.tl.b0.c64, L.tl.tl.tl.tl.tl.b0.c65, L.tl.tl.tl.tl.b0.c60, L.tl.tl.tl.tl.b0.c61, L.tl.tl.tl.tl.b0.c62, L.tl.tl.tl.tl.b0.c63, L.tl.tl.tl.tl.b0.c64, L.tl.tl.tl.tl.b0.c65, L.tl.tl.b0.c60, L.tl.tl.b0.c61, L.tl.tl.b0.c62, L.tl.tl.b0.c63, L.tl.tl.b0.c64, L.tl.tl.b0.c65, L.tl.b0.c60, L.tl.b0.c61, L.tl.b0.c62, L.tl.b0.c63, L.tl.b0.c64, L.tl.b0.c65, L.b0.c60, L.b0.c61, L.b0.c62, L.b0.c63, L.b0.c64, L.b0.c65⟩) (first | (go_at_call 14; (with_reducible refine (SZ.out _ _ _ ?_ ?_ ).mono ?_); (· (refine isI_n (L.getN ?_) (L.getN ?_) <;> (repeat (first | (with_reducible exact List.mem_cons_self) | apply List.mem_cons_of_mem)))); (· (refine isI_n (L.getN ?_) (L.getN ?_) <;> (repeat (first | (with_reducible exact List.mem_cons_self) | apply List.mem_cons_of_mem)))); rintro e wh ⟨rfl, be⟩; replace L := L.step be; clear be) | (go_at_call 26; (with_reducible refine (HL2.out _ _ _ ?_ ?_ ).mono ?_); (· (refine isI_n (L.getN ?_) (L.getN ?_) <;> (repeat (first | (with_reducible exact List.mem_cons_self) | apply List.mem_cons_of_mem)))); (· (refine isI_n (L.getN ?_) (L.getN ?_) <;> (repeat (first | (with_reducible exact List.mem_cons_self) | apply List.mem_cons_of_mem)))); rintro e wh ⟨vh, rfl, ii, be⟩; obtain ⟨A9, c9, B9, d9, rfl, ia, ib⟩ := ii.form; replace L := ((L.step be).n ib).n ia; clear be ii ia ib) | (go_at_call 27; (with_reducible refine (CM.out _ _ _ ?_ ?_ ).mono ?_); (· (refine isI_n (L.getN ?_) (L.getN ?_) <;> (repeat (first | (with_reducible exact List.mem_cons_self) | apply List.mem_cons_of_mem)))); (· (refine isI_n (L.getN ?_) (L.getN ?_) <;> (repeat (first | (with_reducible exact List.mem_cons_self) | apply List.mem_cons_of_mem)))); rintro e wh ⟨rfl, be⟩; replace L := L.step be; clear be) | (go_at_call 14; (with_reducible refine (SH.out _ _ _ ?_ ?_ ).mono ?_); (· (refine isI_n (L.getN ?_) (L.getN ?_) <;> (repeat (first | (with_reducible exact List.mem_cons_self) | apply List.mem_cons_of_mem)))); (· (refine isI_n (L.getN ?_) (L.getN ?_) <;> (repeat (first | (with_reducible exact List.mem_cons_self) | apply List.mem_cons_of_mem)))); rintro e wh ⟨rfl, be⟩; replace L := L.step be; clear be))
    clear c00 c01 c02 c03 c04 c05 c10 c11 c12 c13 c14 c15 c20 c21 c22 c23 c24 c25 c40 c41 c42 c43 c44 c45 c50 c51 c52 c53 c54 c55
    have c30 := L.tl.tl.tl.b0.c30
    have c31 := L.tl.tl.tl.b0.c31
    have c32 := L.tl.tl.tl.b0.c32
    have c40 := L.tl.tl.tl.tl.b0.c60
    have c41 := L.tl.tl.tl.tl.b0.c61
    have c42 := L.tl.tl.tl.tl.b0.c62
    have c43 := L.tl.tl.tl.tl.b0.c63
    have c44 := L.tl.tl.tl.tl.b0.c64
    have c45 := L.tl.tl.tl.tl.b0.c65
    have c50 := L.tl.tl.tl.tl.tl.b0.c60
    have c51 := L.tl.tl.tl.tl.tl.b0.c61
    have c52 := L.tl.tl.tl.tl.tl.b0.c62
    have c53 := L.tl.tl.tl.tl.tl.b0.c63
    have c54 := L.tl.tl.tl.tl.tl.b0.c64
    have c55 := L.tl.tl.tl.tl.tl.b0.c65
    go_wp2_with fail
    refine (HA1.out _ _ _ (isI_n (m := m) (e := e) (n := n) (f := f) (s := .slice A (zl m) c) (t := .slice B (zl n) d) (L.getN (by simp)) (L.getN (by simp))) (L.getQ (v := .agg #[.bool (ng a), .slice C (zl a) u9, .slice H (len q) i9]) (a := a) (d := q) (by simp))).mono ?_
    rintro e w71 ⟨rfl, be⟩
    clear c30 c31 c32 c40 c41 c42 c43 c44 c45 c50 c51 c52 c53 c54 c55
    replace L := L.step be
    clear be
    cases hx
    · skip
      have c00 := L.b0.c60
      have c01 := L.b0.c61
      have c02 := L.b0.c62
      have c03 := L.b0.c63
      have c04 := L.b0.c64
      have c05 := L.b0.c65
      have c50 := L.tl.tl.tl.tl.tl.b0.c60
      have c51 := L.tl.tl.tl.tl.tl.b0.c61
      have c52 := L.tl.tl.tl.tl.tl.b0.c62
      have c53 := L.tl.tl.tl.tl.tl.b0.c63
      have c54 := L.tl.tl.tl.tl.tl.b0.c64
      have c55 := L.tl.tl.tl.tl.tl.b0.c65
      go_wp2_with fail
      refine (W1.out _ _ _ (isI_n (m := m) (e := e) (n := n) (f := f) (s := .slice A (zl m) c) (t := .slice B (zl n) d) (L.getN (by simp)) (L.getN (by simp))) (isI_n (s := .slice A7 (zl pm) c7) (t := .slice B7 (zl rm) d7) (L.getN (by simp)) (L.getN (by simp)))).mono ?_
      rintro e w72 ⟨rfl, be⟩
      clear c00 c01 c02 c03 c04 c05 c50 c51 c52 c53 c54 c55
      replace L := L.step be
      clear be
      have c00 := L.b0.c60
      have c01 := L.b0.c61
      have c02 := L.b0.c62
      have c03 := L.b0.c63
      have c04 := L.b0.c64
      have c05 := L.b0.c65
      have c40 := L.tl.tl.tl.tl.b0.c60
      have c41 := L.tl.tl.tl.tl.b0.c61
      have c42 := L.tl.tl.tl.tl.b0.c62
      have c43 := L.tl.tl.tl.tl.b0.c63
      have c44 := L.tl.tl.tl.tl.b0.c64
      have c45 := L.tl.tl.tl.tl.b0.c65
      go_wp2_with fail
      refine (W2.out _ _ _ (isI_n (m := m2) (e := e2) (n := n2) (f := f2) (s := .slice A2 (zl m2) k2) (t := .slice B2 (zl n2) d2) (L.getN (by simp)) (L.getN (by simp))) (isI_n (s := .slice A7 (zl pm) c7) (t := .slice B7 (zl rm) d7) (L.getN (by simp)) (L.getN (by simp)))).mono ?_
      rintro e w73 ⟨rfl, be⟩
      clear c00 c01 c02 c03 c04 c05 c40 c41 c42 c43 c44 c45
      replace L := L.step be
      clear be
      go_wp2_with fail
      go_ret
      exact ⟨rfl, L.below⟩
    · skip
      have c30 := L.tl.tl.tl.b0.c30
      have c31 := L.tl.tl.tl.b0.c31
      have c32 := L.tl.tl.tl.b0.c32
      have c40 := L.tl.tl.tl.tl.b0.c60
      have c41 := L.tl.tl.tl.tl.b0.c61
      have c42 := L.tl.tl.tl.tl.b0.c62
      have c43 := L.tl.tl.tl.tl.b0.c63
      have c44 := L.tl.tl.tl.tl.b0.c64
      have c45 := L.tl.tl.tl.tl.b0.c65
      have c50 := L.tl.tl.tl.tl.tl.b0.c60
      have c51 := L.tl.tl.tl.tl.tl.b0.c61
      have c52 := L.tl.tl.tl.tl.tl.b0.c62
      have c53 := L.tl.tl.tl.tl.tl.b0.c63
      have c54 := L.tl.tl.tl.tl.tl.b0.c64
      have c55 := L.tl.tl.tl.tl.tl.b0.c65
      go_wp2_with fail
      refine (HA2.out _ _ _ (isI_n (m := m2) (e := e2) (n := n2) (f := f2) (s := .slice A2 (zl m2) k2) (t := .slice B2 (zl n2) d2) (L.getN (by simp)) (L.getN (by simp))) (L.getQ (v := .agg #[.bool (ng a), .slice C (zl a) u9, .slice H (len q) i9]) (a := a) (d := q) (by simp))).mono ?_
      rintro e w72 ⟨rfl, be⟩
      clear c30 c31 c32 c40 c41 c42 c43 c44 c45 c50 c51 c52 c53 c54 c55
      replace L := L.step be
      clear be
      have hfin : hy = false := by simpa using hmh
      subst hfin
      have c00 := L.b0.c60
      have c01 := L.b0.c61
      have c02 := L.b0.c62
      have c03 := L.b0.c63
      have c04 := L.b0.c64
      have c05 := L.b0.c65
      have c50 := L.tl.tl.tl.tl.tl.b0.c60
      have c51 := L.tl.tl.tl.tl.tl.b0.c61
      have c52 := L.tl.tl.tl.tl.tl.b0.c62
      have c53 := L.tl.tl.tl.tl.tl.b0.c63
      have c54 := L.tl.tl.tl.tl.tl.b0.c64
      have c55 := L.tl.tl.tl.tl.tl.b0.c65
      go_wp2_with fail
      refine (W1.out _ _ _ (isI_n (m := m) (e := e) (n := n) (f := f) (s := .slice A (zl m) c) (t := .slice B (zl n) d) (L.getN (by simp)) (L.getN (by simp))) (isI_n (s := .slice A7 (zl pm) c7) (t := .slice B7 (zl rm) d7) (L.getN (by simp)) (L.getN (by simp)))).mono ?_
      rintro e w73 ⟨rfl, be⟩
      clear c00 c01 c02 c03 c04 c05 c50 c51 c52 c53 c54 c55
      replace L := L.step be
      clear be
      have c00 := L.b0.c60
      have c01 := L.b0.c61
      have c02 := L.b0.c62
      have c03 := L.b0.c63
      have c04 := L.b0.c64
      have c05 := L.b0.c65
      have c40 := L.tl.tl.tl.tl.b0.c60
      have c41 := L.tl.tl.tl.tl.b0.c61
      have c42 := L.tl.tl.tl.tl.b0.c62
      have c43 := L.tl.tl.tl.tl.b0.c63
      have c44 := L.tl.tl.tl.tl.b0.c64
      have c45 := L.tl.tl.tl.tl.b0.c65
      go_wp2_with fail
      refine (W2.out _ _ _ (isI_n (m := m2) (e := e2) (n := n2) (f := f2) (s := .slice A2 (zl m2) k2) (t := .slice B2 (zl n2) d2) (L.getN (by simp)) (L.getN (by simp))) (isI_n (s := .slice A7 (zl pm) c7) (t := .slice B7 (zl rm) d7) (L.getN (by simp)) (L.getN (by simp)))).mono ?_
      rintro e w74 ⟨rfl, be⟩
      clear c00 c01 c02 c03 c04 c05 c40 c41 c42 c43 c44 c45
      replace L := L.step be
      clear be
      go_wp2_with fail
      go_ret
      exact ⟨rfl, L.below⟩

end Go.Proofs.Ytgcmdlannbobgaa
