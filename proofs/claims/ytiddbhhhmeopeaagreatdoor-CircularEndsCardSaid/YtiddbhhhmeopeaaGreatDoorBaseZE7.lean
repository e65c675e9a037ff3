/- Base texts, joined: IvPA, ArPA, ArPC. -/
import Derived.Test.YtiddbhhhmeopeaaGreatDoorBaseWE7
import Derived.Test.YtiddbhhhmeopeaaGreatDoorBaseGE7
import Derived.Deep.RegionHeld3
import Derived.Deep.DrawnRows
import Derived.Test.YtiddbhhhmeopeaaGreatDoorBaseXE7
import Derived.Test.YtiddbhhhmeopeaaGreatDoorGrPCE7
import Derived.Test.YtiddbhhhmeopeaaGreatDoorBaseVE7
import Derived.Deep.Cut
import Derived.Deep.CutRange
/- The program's interval: atMost, lesser, greater, Valid, Within, Cmp, Same, Sign. -/
namespace Go.Proofs.YtiddbhhhmeopeaaGreatDoor
set_option maxHeartbeats 64000000
open Go.RowKit
set_option linter.unusedVariables false
set_option linter.unusedSimpArgs false
set_option maxRecDepth 100000
attribute [local go_sem ↓] Go.wp_at_zero Go.wp_at_succ

theorem iatmost_any (m e n f : Int) (vx vy : Value) (w : World) (hx : IsD w vx m e) (hy : IsD w vy n f) (lm : zl m ≤ 1000) (ln : zl n ≤ 1000) (he : -70000 ≤ e ∧ e ≤ 70000) (hf : -70000 ≤ f ∧ f ≤ 70000) :
  Calls Tryz.prog 183 #[vx, vy] w (RetB w (decide (dcm m e n f ≤ 0))):=by
 obtain ⟨A, c, rfl, _, hn1⟩:=hx.form
 obtain ⟨B, d, rfl, _, hn2⟩:=hy.form
 have L0:=((Lq.mk0 w).n hn2).n hn1
 have H10:=fun v u W h1 h2 => dcmp_any m e n f v u W h1 h2 (by omega) (by omega) (by omega) (by omega)
 obtain ⟨x1, hx1⟩:=nm9 (dcm m e n f)
 unfold dcm at hx1
 rw [hx1] at H10
 have H1:=Hd9 H10
 clear H10
 show Calls _ _ _ _ (RetB w (decide (cmpI (m * 2 ^ (e - min e f).toNat) (n * 2 ^ (f - min e f).toNat) ≤ 0)))
 rw [hx1]
 clear hx hy hn1 hn2 hx1 lm ln he hf
 go_enter Tryz.func183, Tryz.ntmps183
 go_wp2_with fail
 have L:=((L0.varD (w.heap.size) (by simp) (ng m) A (zl m) c e).varD (w.heap.size + 1) (by simp) (ng n) B (zl n) d f)
 obtain ⟨c00,c01,c02⟩:=L.b0.a3
 obtain ⟨c10,c11,c12⟩:=L.tl.b0.a3
 (try go_wp2_with fail)
 refine (H1.out _ _ _ (isD_n (m:=m) (e:=e) (s:=.slice A (zl m) c) (L.getN (v:=.slice A (zl m) c) (x:=(m).natAbs) (by simp))) (isD_n (m:=n) (e:=f) (s:=.slice B (zl n) d) (L.getN (v:=.slice B (zl n) d) (x:=(n).natAbs) (by simp)))).mono ?_
 rintro e w1 ⟨rfl, be⟩
 clear c00 c01 c02 c10 c11 c12
 replace L:=L.step be
 clear be
 obtain ⟨c00,c01,c02⟩:=L.b0.a3
 (try go_wp2_with fail)
 go_ret
 exact ⟨rfl, L.below⟩
theorem ilesser_any (m e n f : Int) (vx vy : Value) (w : World) (hx : IsD w vx m e) (hy : IsD w vy n f) (lm : zl m ≤ 1000) (ln : zl n ≤ 1000) (he : -20000 ≤ e ∧ e ≤ 20000) (hf : -20000 ≤ f ∧ f ≤ 20000) :
  Calls Tryz.prog 225 #[vx, vy] w (RetD8 w (lstD m e n f).1 (lstD m e n f).2):=by
 obtain ⟨A, c, rfl, _, hn1⟩:=hx.form
 obtain ⟨B, d, rfl, _, hn2⟩:=hy.form
 have L0:=((Lq.mk0 w).n hn2).n hn1
 obtain ⟨r, hr⟩:=nm9 (lstD m e n f)
 rw [hr]
 unfold lstD at hr
 have H10:=fun v u W k1 k2 => iatmost_any m e n f v u W k1 k2 (by omega) (by omega) (by omega) (by omega)
 obtain ⟨b, hb⟩:=nm9 (decide (dcm m e n f ≤ 0))
 rw [hb] at H10
 have H1:=Hd9 H10
 clear H10
 cases b
 ·have hb2:=of_decide_eq_false hb
  rw [if_neg hb2] at hr
  subst hr
  clear hb hb2 hx hy hn1 hn2 lm ln he hf
  go_enter Tryz.func225, Tryz.ntmps225
  go_wp2_with fail
  have L:=(((L0.varD (w.heap.size) (by simp) (ng m) A (zl m) c e).varD (w.heap.size + 1) (by simp) (ng n) B (zl n) d f).varD (w.heap.size + 2) (by simp) false none 0 0 0)
  obtain ⟨c00,c01,c02⟩:=L.b0.a3
  obtain ⟨f00,f01,f02⟩:=L.b0.f3
  obtain ⟨c10,c11,c12⟩:=L.tl.b0.a3
  obtain ⟨c20,c21,c22⟩:=L.tl.tl.b0.a3
  (try go_wp2_with fail)
  refine (H1.out _ _ _ (isD_n (m:=m) (e:=e) (s:=.slice A (zl m) c) (L.getN (v:=.slice A (zl m) c) (x:=(m).natAbs) (by simp))) (isD_n (m:=n) (e:=f) (s:=.slice B (zl n) d) (L.getN (v:=.slice B (zl n) d) (x:=(n).natAbs) (by simp)))).mono ?_
  rintro e w1 ⟨rfl, be⟩
  clear c00 f00 c01 f01 c02 f02 c10 c11 c12 c20 c21 c22
  replace L:=L.step be
  clear be
  obtain ⟨c00,c01,c02⟩:=L.b0.a3
  obtain ⟨f00,f01,f02⟩:=L.b0.f3
  obtain ⟨c10,c11,c12⟩:=L.tl.b0.a3
  obtain ⟨c20,c21,c22⟩:=L.tl.tl.b0.a3
  (try go_wp2_with fail)
  have LP:=L.putD (by omega) (by first | (simp; done) | (simp; omega)) (ng n) B (zl n) d (f)
  obtain ⟨k0,k1,k2⟩:=LP.b0.a3
  unfold put3 at k0 k1 k2
  exact bodyPost_ret (v:=.agg #[.bool (ng n), .slice B (zl n) d, .int .i64 (f)]) (by simp [results, Tryz.results225, go_sem, k0, k1, k2]) rfl ⟨_, rfl, isD_n (LP.getN (by simp)), LP.below⟩
 ·have hb2:=of_decide_eq_true hb
  rw [if_pos hb2] at hr
  subst hr
  clear hb hb2 hx hy hn1 hn2 lm ln he hf
  go_enter Tryz.func225, Tryz.ntmps225
  go_wp2_with fail
  have L:=(((L0.varD (w.heap.size) (by simp) (ng m) A (zl m) c e).varD (w.heap.size + 1) (by simp) (ng n) B (zl n) d f).varD (w.heap.size + 2) (by simp) false none 0 0 0)
  obtain ⟨c00,c01,c02⟩:=L.b0.a3
  obtain ⟨f00,f01,f02⟩:=L.b0.f3
  obtain ⟨c10,c11,c12⟩:=L.tl.b0.a3
  obtain ⟨c20,c21,c22⟩:=L.tl.tl.b0.a3
  (try go_wp2_with fail)
  refine (H1.out _ _ _ (isD_n (m:=m) (e:=e) (s:=.slice A (zl m) c) (L.getN (v:=.slice A (zl m) c) (x:=(m).natAbs) (by simp))) (isD_n (m:=n) (e:=f) (s:=.slice B (zl n) d) (L.getN (v:=.slice B (zl n) d) (x:=(n).natAbs) (by simp)))).mono ?_
  rintro e w1 ⟨rfl, be⟩
  clear c00 f00 c01 f01 c02 f02 c10 c11 c12 c20 c21 c22
  replace L:=L.step be
  clear be
  obtain ⟨c00,c01,c02⟩:=L.b0.a3
  obtain ⟨f00,f01,f02⟩:=L.b0.f3
  obtain ⟨c10,c11,c12⟩:=L.tl.b0.a3
  obtain ⟨c20,c21,c22⟩:=L.tl.tl.b0.a3
  (try go_wp2_with fail)
  have LP:=L.putD (by omega) (by first | (simp; done) | (simp; omega)) (ng m) A (zl m) c (e)
  obtain ⟨k0,k1,k2⟩:=LP.b0.a3
  unfold put3 at k0 k1 k2
  exact bodyPost_ret (v:=.agg #[.bool (ng m), .slice A (zl m) c, .int .i64 (e)]) (by simp [results, Tryz.results225, go_sem, k0, k1, k2]) rfl ⟨_, rfl, isD_n (LP.getN (by simp)), LP.below⟩
theorem igreater_any (m e n f : Int) (vx vy : Value) (w : World) (hx : IsD w vx m e) (hy : IsD w vy n f) (lm : zl m ≤ 1000) (ln : zl n ≤ 1000) (he : -20000 ≤ e ∧ e ≤ 20000) (hf : -20000 ≤ f ∧ f ≤ 20000) (v1 : Dv m e) (v2 : Dv n f) :
  Calls Tryz.prog 226 #[vx, vy] w (RetD8 w (gstD m e n f).1 (gstD m e n f).2):=by
 obtain ⟨A, c, rfl, _, hn1⟩:=hx.form
 obtain ⟨B, d, rfl, _, hn2⟩:=hy.form
 have L0:=((Lq.mk0 w).n hn2).n hn1
 obtain ⟨r, hr⟩:=nm9 (gstD m e n f)
 rw [hr]
 unfold gstD at hr
 have hq:=dcm_eq v1 v2
 have H10:=fun v u W k1 k2 => iatmost_any m e n f v u W k1 k2 (by omega) (by omega) (by omega) (by omega)
 obtain ⟨b, hb⟩:=nm9 (decide (dcm m e n f ≤ 0))
 rw [hb] at H10
 have H1:=Hd9 H10
 clear H10
 cases b
 ·have hb2:=of_decide_eq_false hb
  rw [if_pos (by omega)] at hr
  subst hr
  clear hb hb2 hq v1 v2 hx hy hn1 hn2 lm ln he hf
  go_enter Tryz.func226, Tryz.ntmps226
  go_wp2_with fail
  have L:=(((L0.varD (w.heap.size) (by simp) (ng m) A (zl m) c e).varD (w.heap.size + 1) (by simp) (ng n) B (zl n) d f).varD (w.heap.size + 2) (by simp) false none 0 0 0)
  obtain ⟨c00,c01,c02⟩:=L.b0.a3
  obtain ⟨f00,f01,f02⟩:=L.b0.f3
  obtain ⟨c10,c11,c12⟩:=L.tl.b0.a3
  obtain ⟨c20,c21,c22⟩:=L.tl.tl.b0.a3
  (try go_wp2_with fail)
  refine (H1.out _ _ _ (isD_n (m:=m) (e:=e) (s:=.slice A (zl m) c) (L.getN (v:=.slice A (zl m) c) (x:=(m).natAbs) (by simp))) (isD_n (m:=n) (e:=f) (s:=.slice B (zl n) d) (L.getN (v:=.slice B (zl n) d) (x:=(n).natAbs) (by simp)))).mono ?_
  rintro e w1 ⟨rfl, be⟩
  clear c00 f00 c01 f01 c02 f02 c10 c11 c12 c20 c21 c22
  replace L:=L.step be
  clear be
  obtain ⟨c00,c01,c02⟩:=L.b0.a3
  obtain ⟨f00,f01,f02⟩:=L.b0.f3
  obtain ⟨c10,c11,c12⟩:=L.tl.b0.a3
  obtain ⟨c20,c21,c22⟩:=L.tl.tl.b0.a3
  (try go_wp2_with fail)
  have LP:=L.putD (by omega) (by first | (simp; done) | (simp; omega)) (ng m) A (zl m) c (e)
  obtain ⟨k0,k1,k2⟩:=LP.b0.a3
  unfold put3 at k0 k1 k2
  exact bodyPost_ret (v:=.agg #[.bool (ng m), .slice A (zl m) c, .int .i64 (e)]) (by simp [results, Tryz.results226, go_sem, k0, k1, k2]) rfl ⟨_, rfl, isD_n (LP.getN (by simp)), LP.below⟩
 ·have hb2:=of_decide_eq_true hb
  have hr2 : (n, f) = r:=by
   rw [← hr]
   split
   ·rename_i h0
    have h1:=hq.1 (by omega)
    rw [h1.1, h1.2]
   ·rfl
  clear hr
  subst hr2
  clear hb hb2 hq v1 v2 hx hy hn1 hn2 lm ln he hf
  go_enter Tryz.func226, Tryz.ntmps226
  go_wp2_with fail
  have L:=(((L0.varD (w.heap.size) (by simp) (ng m) A (zl m) c e).varD (w.heap.size + 1) (by simp) (ng n) B (zl n) d f).varD (w.heap.size + 2) (by simp) false none 0 0 0)
  obtain ⟨c00,c01,c02⟩:=L.b0.a3
  obtain ⟨f00,f01,f02⟩:=L.b0.f3
  obtain ⟨c10,c11,c12⟩:=L.tl.b0.a3
  obtain ⟨c20,c21,c22⟩:=L.tl.tl.b0.a3
  (try go_wp2_with fail)
  refine (H1.out _ _ _ (isD_n (m:=m) (e:=e) (s:=.slice A (zl m) c) (L.getN (v:=.slice A (zl m) c) (x:=(m).natAbs) (by simp))) (isD_n (m:=n) (e:=f) (s:=.slice B (zl n) d) (L.getN (v:=.slice B (zl n) d) (x:=(n).natAbs) (by simp)))).mono ?_
  rintro e w1 ⟨rfl, be⟩
  clear c00 f00 c01 f01 c02 f02 c10 c11 c12 c20 c21 c22
  replace L:=L.step be
  clear be
  obtain ⟨c00,c01,c02⟩:=L.b0.a3
  obtain ⟨f00,f01,f02⟩:=L.b0.f3
  obtain ⟨c10,c11,c12⟩:=L.tl.b0.a3
  obtain ⟨c20,c21,c22⟩:=L.tl.tl.b0.a3
  (try go_wp2_with fail)
  have LP:=L.putD (by omega) (by first | (simp; done) | (simp; omega)) (ng n) B (zl n) d (f)
  obtain ⟨k0,k1,k2⟩:=LP.b0.a3
  unfold put3 at k0 k1 k2
  exact bodyPost_ret (v:=.agg #[.bool (ng n), .slice B (zl n) d, .int .i64 (f)]) (by simp [results, Tryz.results226, go_sem, k0, k1, k2]) rfl ⟨_, rfl, isD_n (LP.getN (by simp)), LP.below⟩
theorem i10valid_any (m e n f : Int) (vx : Value) (w : World) (hx : IsI w vx m e n f) (lm : zl m ≤ 1000) (ln : zl n ≤ 1000) (he : -70000 ≤ e ∧ e ≤ 70000) (hf : -70000 ≤ f ∧ f ≤ 70000) (hv : Dv m e) (hv2 : Dv n f) :
  Calls Tryz.prog 113 #[vx] w (RetB w (decide (dcm m e n f ≤ 0))):=by
 obtain ⟨A, c, B, d, rfl, hn1, hn2⟩:=hx.form
 have L0:=((Lq.mk0 w).n hn2).n hn1
 have hok : ∀ m e : Int, Dv m e → (if m = 0 then decide (e = 0) else fits8 m e) = true:=fun m e h => by
  rcases h with ⟨h1, h2⟩ | ⟨h1, h2⟩
  ·rw [if_pos h1, h2]; rfl
  ·rw [if_neg h1, h2]
 have v1:=fun v W h => dvalid_d m e v W h (by omega)
 have v2:=fun v W h => dvalid_d n f v W h (by omega)
 rw [hok m e hv] at v1
 rw [hok n f hv2] at v2
 have V1:=Hd9 v1
 have V2:=Hd9 v2
 have H10:=fun v u W k1 k2 => iatmost_any m e n f v u W k1 k2 (by omega) (by omega) (by omega) (by omega)
 obtain ⟨b, hb⟩:=nm9 (decide (dcm m e n f ≤ 0))
 rw [hb] at H10
 have H1:=Hd9 H10
 clear H10
 rw [hb]
 clear v1 v2 hok hx hn1 hn2 hb lm ln he hf hv hv2
 go_enter Tryz.func113, Tryz.ntmps113
 go_wp2_with fail
 have L:=(L0.varI (w.heap.size) (by simp) (ng m) A (zl m) c e (ng n) B (zl n) d f)
 obtain ⟨c00,c01,c02,c03,c04,c05⟩:=L.b0.a6
 (try go_wp2_with fail)
 refine (V1.out _ _ (isD_n (m:=m) (e:=e) (s:=.slice A (zl m) c) (L.getN (v:=.slice A (zl m) c) (x:=(m).natAbs) (by simp)))).mono ?_
 rintro e w1 ⟨rfl, be⟩
 clear c00 c01 c02 c03 c04 c05
 replace L:=L.step be
 clear be
 obtain ⟨c00,c01,c02,c03,c04,c05⟩:=L.b0.a6
 (try go_wp2_with fail)
 refine (V2.out _ _ (isD_n (m:=n) (e:=f) (s:=.slice B (zl n) d) (L.getN (v:=.slice B (zl n) d) (x:=(n).natAbs) (by simp)))).mono ?_
 rintro e w2 ⟨rfl, be⟩
 clear c00 c01 c02 c03 c04 c05
 replace L:=L.step be
 clear be
 obtain ⟨c00,c01,c02,c03,c04,c05⟩:=L.b0.a6
 (try go_wp2_with fail)
 refine (H1.out _ _ _ (isD_n (m:=m) (e:=e) (s:=.slice A (zl m) c) (L.getN (v:=.slice A (zl m) c) (x:=(m).natAbs) (by simp))) (isD_n (m:=n) (e:=f) (s:=.slice B (zl n) d) (L.getN (v:=.slice B (zl n) d) (x:=(n).natAbs) (by simp)))).mono ?_
 rintro e w3 ⟨rfl, be⟩
 clear c00 c01 c02 c03 c04 c05
 replace L:=L.step be
 clear be
 obtain ⟨c00,c01,c02,c03,c04,c05⟩:=L.b0.a6
 (try go_wp2_with fail)
 go_ret
 exact ⟨rfl, L.below⟩
theorem i10within_any (m e n f m2 e2 n2 f2 : Int) (vx vy : Value) (w : World) (hx : IsI w vx m e n f) (hy : IsI w vy m2 e2 n2 f2) (lm : zl m ≤ 1000) (ln : zl n ≤ 1000) (lm2 : zl m2 ≤ 1000) (ln2 : zl n2 ≤ 1000) (he : -20000 ≤ e ∧ e ≤ 20000) (hf : -20000 ≤ f ∧ f ≤ 20000) (he2 : -20000 ≤ e2 ∧ e2 ≤ 20000) (hf2 : -20000 ≤ f2 ∧ f2 ≤ 20000) :
  Calls Tryz.prog 172 #[vx, vy] w (RetB w (inB m e n f m2 e2 n2 f2)):=by
 obtain ⟨A, c, B, d, rfl, hn1, hn2⟩:=hx.form
 obtain ⟨A2, k2, B2, d2, rfl, hn3, hn4⟩:=hy.form
 have L0:=((((Lq.mk0 w).n hn4).n hn3).n hn2).n hn1
 unfold inB
 have H10:=fun v u W k1 k2 => iatmost_any m2 e2 m e v u W k1 k2 (by omega) (by omega) (by omega) (by omega)
 obtain ⟨x1, hx1⟩:=nm9 (decide (dcm m2 e2 m e ≤ 0))
 rw [hx1] at H10
 have H1:=Hd9 H10
 clear H10
 have H20:=fun v u W k1 k2 => iatmost_any n f n2 f2 v u W k1 k2 (by omega) (by omega) (by omega) (by omega)
 obtain ⟨x2, hx2⟩:=nm9 (decide (dcm n f n2 f2 ≤ 0))
 rw [hx2] at H20
 have H2:=Hd9 H20
 clear H20
 rw [hx1, hx2]
 clear hx hy hn1 hn2 hn3 hn4 hx1 hx2 lm ln lm2 ln2 he hf he2 hf2
 cases x1
 ·rw [Bool.false_and]
  go_enter Tryz.func172, Tryz.ntmps172
  go_wp2_with fail
  have L:=((L0.varI (w.heap.size) (by simp) (ng m) A (zl m) c e (ng n) B (zl n) d f).varI (w.heap.size + 1) (by simp) (ng m2) A2 (zl m2) k2 e2 (ng n2) B2 (zl n2) d2 f2)
  obtain ⟨c00,c01,c02,c03,c04,c05⟩:=L.b0.a6
  obtain ⟨c10,c11,c12,c13,c14,c15⟩:=L.tl.b0.a6
  (try go_wp2_with fail)
  refine (H1.out _ _ _ (isD_n (m:=m2) (e:=e2) (s:=.slice A2 (zl m2) k2) (L.getN (v:=.slice A2 (zl m2) k2) (x:=(m2).natAbs) (by simp))) (isD_n (m:=m) (e:=e) (s:=.slice A (zl m) c) (L.getN (v:=.slice A (zl m) c) (x:=(m).natAbs) (by simp)))).mono ?_
  rintro e w1 ⟨rfl, be⟩
  clear c00 c01 c02 c03 c04 c05 c10 c11 c12 c13 c14 c15
  replace L:=L.step be
  clear be
  obtain ⟨c00,c01,c02,c03,c04,c05⟩:=L.b0.a6
  obtain ⟨c10,c11,c12,c13,c14,c15⟩:=L.tl.b0.a6
  (try go_wp2_with fail)
  go_ret
  exact ⟨rfl, L.below⟩
 ·rw [Bool.true_and]
  go_enter Tryz.func172, Tryz.ntmps172
  go_wp2_with fail
  have L:=((L0.varI (w.heap.size) (by simp) (ng m) A (zl m) c e (ng n) B (zl n) d f).varI (w.heap.size + 1) (by simp) (ng m2) A2 (zl m2) k2 e2 (ng n2) B2 (zl n2) d2 f2)
  obtain ⟨c00,c01,c02,c03,c04,c05⟩:=L.b0.a6
  obtain ⟨c10,c11,c12,c13,c14,c15⟩:=L.tl.b0.a6
  (try go_wp2_with fail)
  refine (H1.out _ _ _ (isD_n (m:=m2) (e:=e2) (s:=.slice A2 (zl m2) k2) (L.getN (v:=.slice A2 (zl m2) k2) (x:=(m2).natAbs) (by simp))) (isD_n (m:=m) (e:=e) (s:=.slice A (zl m) c) (L.getN (v:=.slice A (zl m) c) (x:=(m).natAbs) (by simp)))).mono ?_
  rintro e w1 ⟨rfl, be⟩
  clear c00 c01 c02 c03 c04 c05 c10 c11 c12 c13 c14 c15
  replace L:=L.step be
  clear be
  obtain ⟨c00,c01,c02,c03,c04,c05⟩:=L.b0.a6
  obtain ⟨c10,c11,c12,c13,c14,c15⟩:=L.tl.b0.a6
  (try go_wp2_with fail)
  refine (H2.out _ _ _ (isD_n (m:=n) (e:=f) (s:=.slice B (zl n) d) (L.getN (v:=.slice B (zl n) d) (x:=(n).natAbs) (by simp))) (isD_n (m:=n2) (e:=f2) (s:=.slice B2 (zl n2) d2) (L.getN (v:=.slice B2 (zl n2) d2) (x:=(n2).natAbs) (by simp)))).mono ?_
  rintro e w2 ⟨rfl, be⟩
  clear c00 c01 c02 c03 c04 c05 c10 c11 c12 c13 c14 c15
  replace L:=L.step be
  clear be
  (try go_wp2_with fail)
  go_ret
  exact ⟨rfl, L.below⟩
theorem i10sign_any (m e n f : Int) (vx : Value) (w : World) (hx : IsI w vx m e n f) (lm : zl m ≤ 1000) (ln : zl n ≤ 1000) (he : -20000 ≤ e ∧ e ≤ 20000) (hf : -20000 ≤ f ∧ f ≤ 20000) :
  Calls Tryz.prog 95 #[vx] w (RetSg w m n):=by
 obtain ⟨A, c, B, d, rfl, hn1, hn2⟩:=hx.form
 have L0:=((Lq.mk0 w).n hn2).n hn1
 have s1:=fun v W h => dsign_any m e v W h (by omega)
 have s2:=fun v W h => dsign_any n f v W h (by omega)
 unfold RetSg
 obtain ⟨x1, hx1⟩:=nm9 (cmpI m 0)
 obtain ⟨x2, hx2⟩:=nm9 (cmpI n 0)
 rw [hx1] at s1
 rw [hx2] at s2
 rw [hx1, hx2]
 have S1:=Hd9 s1
 have S2:=Hd9 s2
 clear s1 s2 hx hn1 hn2 hx1 hx2 lm ln he hf
 by_cases q : x1 = x2
 ·subst q
  rw [if_pos rfl, decide_eq_true rfl]
  have b1 : (x1 == x1) = true:=by simp
  have b2 : (x1 != x1) = false:=by simp
  go_enter Tryz.func95, Tryz.ntmps95
  go_wp2_with fail
  have L:=(L0.varI (w.heap.size) (by simp) (ng m) A (zl m) c e (ng n) B (zl n) d f)
  obtain ⟨c00,c01,c02,c03,c04,c05⟩:=L.b0.a6
  (try go_wp2_with fail)
  refine (S1.out _ _ (isD_n (m:=m) (e:=e) (s:=.slice A (zl m) c) (L.getN (v:=.slice A (zl m) c) (x:=(m).natAbs) (by simp)))).mono ?_
  rintro e w1 ⟨rfl, be⟩
  clear c00 c01 c02 c03 c04 c05
  replace L:=L.step be
  clear be
  obtain ⟨c00,c01,c02,c03,c04,c05⟩:=L.b0.a6
  (try go_wp2_with fail)
  refine (S2.out _ _ (isD_n (m:=n) (e:=f) (s:=.slice B (zl n) d) (L.getN (v:=.slice B (zl n) d) (x:=(n).natAbs) (by simp)))).mono ?_
  rintro e w2 ⟨rfl, be⟩
  clear c00 c01 c02 c03 c04 c05
  replace L:=L.step be
  clear be
  obtain ⟨c00,c01,c02,c03,c04,c05⟩:=L.b0.a6
  (try go_wp2_with fail)
  go_ret2
  exact ⟨rfl, L.below⟩
 ·rw [if_neg q, decide_eq_false q]
  have b1 : (x1 == x2) = false:=by simpa using q
  have b2 : (x1 != x2) = true:=by simpa using q
  go_enter Tryz.func95, Tryz.ntmps95
  go_wp2_with fail
  have L:=(L0.varI (w.heap.size) (by simp) (ng m) A (zl m) c e (ng n) B (zl n) d f)
  obtain ⟨c00,c01,c02,c03,c04,c05⟩:=L.b0.a6
  (try go_wp2_with fail)
  refine (S1.out _ _ (isD_n (m:=m) (e:=e) (s:=.slice A (zl m) c) (L.getN (v:=.slice A (zl m) c) (x:=(m).natAbs) (by simp)))).mono ?_
  rintro e w1 ⟨rfl, be⟩
  clear c00 c01 c02 c03 c04 c05
  replace L:=L.step be
  clear be
  obtain ⟨c00,c01,c02,c03,c04,c05⟩:=L.b0.a6
  (try go_wp2_with fail)
  refine (S2.out _ _ (isD_n (m:=n) (e:=f) (s:=.slice B (zl n) d) (L.getN (v:=.slice B (zl n) d) (x:=(n).natAbs) (by simp)))).mono ?_
  rintro e w2 ⟨rfl, be⟩
  clear c00 c01 c02 c03 c04 c05
  replace L:=L.step be
  clear be
  obtain ⟨c00,c01,c02,c03,c04,c05⟩:=L.b0.a6
  (try go_wp2_with fail)
  go_ret2
  exact ⟨rfl, L.below⟩

end Go.Proofs.YtiddbhhhmeopeaaGreatDoor


/- The program's arith: permitted, isEnd, Small. -/
namespace Go.Proofs.YtiddbhhhmeopeaaGreatDoor
set_option maxHeartbeats 64000000
open Go.RowKit
set_option linter.unusedVariables false
set_option linter.unusedSimpArgs false
set_option maxRecDepth 100000
attribute [local go_sem ↓] Go.wp_at_zero Go.wp_at_succ

theorem aperm_any (p : Int) (w : World) :
  Calls Tryz.prog 96 #[.int .i64 p] w (fun e w' => e = .returned (.bool (workB p)) ∧ w = w'):=by
 unfold workB
 by_cases q1 : 0 ≤ p
 ·have b1 : decide (0 ≤ p) = true:=decide_eq_true q1
  rw [b1, Bool.true_and]
  go_enter Tryz.func96, Tryz.ntmps96
  go_wp2_with fail
  go_ret
  exact ⟨rfl, rfl⟩
 ·have b1 : decide (0 ≤ p) = false:=decide_eq_false q1
  rw [b1, Bool.false_and]
  go_enter Tryz.func96, Tryz.ntmps96
  go_wp2_with fail
  go_ret
  exact ⟨rfl, rfl⟩
theorem aend_any (m e : Int) (vx : Value) (w : World) (hx : IsD w vx m e) (lm : zl m ≤ 1000) (he : -70000 ≤ e ∧ e ≤ 70000) (hv : Dv m e) :
  Calls Tryz.prog 114 #[vx] w (RetB w (decide (topZ m e ≤ 2048) && onB m e 8192)):=by
 obtain ⟨A, c, rfl, _, hn1⟩:=hx.form
 have L0:=(Lq.mk0 w).n hn1
 have h0 : m = 0 → e = 0:=(fun h0 => by rcases hv with h1 | h1; exact h1.2; exact absurd h0 h1.1)
 have h1:=fun v W h => dtop_any m e v W h (by omega) (by omega) h0
 have h2:=fun v W h => gon_any m e 8192 v W h (by omega) (by omega) (by omega)
 obtain ⟨x1, hx1⟩:=nm9 (topZ m e)
 obtain ⟨b1, hb1⟩:=nm9 (onB m e 8192)
 rw [hx1] at h1 ⊢
 rw [hb1] at h2 ⊢
 have H1:=Hd9 h1
 have H2:=Hd9 h2
 clear h0 h1 h2 hx hn1 lm he hv hx1 hb1
 by_cases q1 : x1 ≤ 2048
 ·have t1 : decide (x1 ≤ 2048) = true:=decide_eq_true q1
  rw [t1, Bool.true_and]
  clear q1
  go_enter Tryz.func114, Tryz.ntmps114
  go_wp2_with fail
  have L:=(L0.varD (w.heap.size) (by simp) (ng m) A (zl m) c e)
  obtain ⟨c00,c01,c02⟩:=L.b0.a3
  (try go_wp2_with fail)
  refine (H1.out _ _ (isD_n (m:=m) (e:=e) (s:=.slice A (zl m) c) (L.getN (v:=.slice A (zl m) c) (x:=(m).natAbs) (by simp)))).mono ?_
  rintro e w1 ⟨rfl, be⟩
  clear c00 c01 c02
  replace L:=L.step be
  clear be
  obtain ⟨c00,c01,c02⟩:=L.b0.a3
  (try go_wp2_with fail)
  refine (H2.out _ _ (isD_n (m:=m) (e:=e) (s:=.slice A (zl m) c) (L.getN (v:=.slice A (zl m) c) (x:=(m).natAbs) (by simp)))).mono ?_
  rintro e w2 ⟨rfl, be⟩
  clear c00 c01 c02
  replace L:=L.step be
  clear be
  obtain ⟨c00,c01,c02⟩:=L.b0.a3
  (try go_wp2_with fail)
  go_ret
  exact ⟨rfl, L.below⟩
 ·have t1 : decide (x1 ≤ 2048) = false:=decide_eq_false q1
  rw [t1, Bool.false_and]
  clear q1
  go_enter Tryz.func114, Tryz.ntmps114
  go_wp2_with fail
  have L:=(L0.varD (w.heap.size) (by simp) (ng m) A (zl m) c e)
  obtain ⟨c00,c01,c02⟩:=L.b0.a3
  (try go_wp2_with fail)
  refine (H1.out _ _ (isD_n (m:=m) (e:=e) (s:=.slice A (zl m) c) (L.getN (v:=.slice A (zl m) c) (x:=(m).natAbs) (by simp)))).mono ?_
  rintro e w1 ⟨rfl, be⟩
  clear c00 c01 c02
  replace L:=L.step be
  clear be
  obtain ⟨c00,c01,c02⟩:=L.b0.a3
  (try go_wp2_with fail)
  go_ret
  exact ⟨rfl, L.below⟩
theorem small_perm : ∀ a b c d e : Bool, (a && (b && (c && (d && e)))) = ((a && (b && d)) && (c && e)):=by decide
theorem asmall_any (m e n f : Int) (vx : Value) (w : World) (hx : IsI w vx m e n f) (lm : zl m ≤ 1000) (ln : zl n ≤ 1000) (he : -70000 ≤ e ∧ e ≤ 70000) (hf : -70000 ≤ f ∧ f ≤ 70000) (hv : Dv m e) (hv2 : Dv n f) :
  Calls Tryz.prog 62 #[vx] w (RetB w (smallB m e n f)):=by
 obtain ⟨A, c, B, d, rfl, hn1, hn2⟩:=hx.form
 have L0:=((Lq.mk0 w).n hn2).n hn1
 have h0:=fun v W h => i10valid_any m e n f v W h lm ln he hf hv hv2
 have h1:=fun v W h => aend_any m e v W h lm he hv
 have h2:=fun v W h => aend_any n f v W h ln hf hv2
 unfold smallB
 rw [small_perm]
 obtain ⟨b0, hb0⟩:=nm9 (decide (dcm m e n f ≤ 0))
 obtain ⟨b1, hb1⟩:=nm9 ((decide (topZ m e ≤ 2048) && onB m e 8192))
 obtain ⟨b2, hb2⟩:=nm9 ((decide (topZ n f ≤ 2048) && onB n f 8192))
 rw [hb0] at h0 ⊢
 rw [hb1] at h1 ⊢
 rw [hb2] at h2 ⊢
 have H0:=Hd9 h0
 have H1:=Hd9 h1
 have H2:=Hd9 h2
 have hxx:=Hd9 hx
 clear h0 h1 h2 hb0 hb1 hb2 hx hn1 hn2 lm ln he hf hv hv2
 clear hxx
 cases b0
 ·rw [Bool.false_and, Bool.false_and]
  go_enter Tryz.func62, Tryz.ntmps62
  go_wp2_with fail
  have L:=(L0.varI (w.heap.size) (by simp) (ng m) A (zl m) c e (ng n) B (zl n) d f)
  obtain ⟨c00,c01,c02,c03,c04,c05⟩:=L.b0.a6
  (try go_wp2_with fail)
  refine (H0.out _ _ (isI_n (m:=m) (e:=e) (n:=n) (f:=f) (L.getN (v:=.slice A (zl m) c) (x:=(m).natAbs) (by simp)) (L.getN (v:=.slice B (zl n) d) (x:=(n).natAbs) (by simp)))).mono ?_
  rintro e w1 ⟨rfl, be⟩
  clear c00 c01 c02 c03 c04 c05
  replace L:=L.step be
  clear be
  obtain ⟨c00,c01,c02,c03,c04,c05⟩:=L.b0.a6
  (try go_wp2_with fail)
  go_ret
  exact ⟨rfl, L.below⟩
 ·rw [Bool.true_and]
  cases b1
  ·rw [Bool.false_and]
   go_enter Tryz.func62, Tryz.ntmps62
   go_wp2_with fail
   have L:=(L0.varI (w.heap.size) (by simp) (ng m) A (zl m) c e (ng n) B (zl n) d f)
   obtain ⟨c00,c01,c02,c03,c04,c05⟩:=L.b0.a6
   (try go_wp2_with fail)
   refine (H0.out _ _ (isI_n (m:=m) (e:=e) (n:=n) (f:=f) (L.getN (v:=.slice A (zl m) c) (x:=(m).natAbs) (by simp)) (L.getN (v:=.slice B (zl n) d) (x:=(n).natAbs) (by simp)))).mono ?_
   rintro e w1 ⟨rfl, be⟩
   clear c00 c01 c02 c03 c04 c05
   replace L:=L.step be
   clear be
   obtain ⟨c00,c01,c02,c03,c04,c05⟩:=L.b0.a6
   (try go_wp2_with fail)
   refine (H1.out _ _ (isD_n (m:=m) (e:=e) (s:=.slice A (zl m) c) (L.getN (v:=.slice A (zl m) c) (x:=(m).natAbs) (by simp)))).mono ?_
   rintro e w2 ⟨rfl, be⟩
   clear c00 c01 c02 c03 c04 c05
   replace L:=L.step be
   clear be
   obtain ⟨c00,c01,c02,c03,c04,c05⟩:=L.b0.a6
   (try go_wp2_with fail)
   go_ret
   exact ⟨rfl, L.below⟩
  ·rw [Bool.true_and]
   go_enter Tryz.func62, Tryz.ntmps62
   go_wp2_with fail
   have L:=(L0.varI (w.heap.size) (by simp) (ng m) A (zl m) c e (ng n) B (zl n) d f)
   obtain ⟨c00,c01,c02,c03,c04,c05⟩:=L.b0.a6
   (try go_wp2_with fail)
   refine (H0.out _ _ (isI_n (m:=m) (e:=e) (n:=n) (f:=f) (L.getN (v:=.slice A (zl m) c) (x:=(m).natAbs) (by simp)) (L.getN (v:=.slice B (zl n) d) (x:=(n).natAbs) (by simp)))).mono ?_
   rintro e w1 ⟨rfl, be⟩
   clear c00 c01 c02 c03 c04 c05
   replace L:=L.step be
   clear be
   obtain ⟨c00,c01,c02,c03,c04,c05⟩:=L.b0.a6
   (try go_wp2_with fail)
   refine (H1.out _ _ (isD_n (m:=m) (e:=e) (s:=.slice A (zl m) c) (L.getN (v:=.slice A (zl m) c) (x:=(m).natAbs) (by simp)))).mono ?_
   rintro e w2 ⟨rfl, be⟩
   clear c00 c01 c02 c03 c04 c05
   replace L:=L.step be
   clear be
   obtain ⟨c00,c01,c02,c03,c04,c05⟩:=L.b0.a6
   (try go_wp2_with fail)
   refine (H2.out _ _ (isD_n (m:=n) (e:=f) (s:=.slice B (zl n) d) (L.getN (v:=.slice B (zl n) d) (x:=(n).natAbs) (by simp)))).mono ?_
   rintro e w3 ⟨rfl, be⟩
   clear c00 c01 c02 c03 c04 c05
   replace L:=L.step be
   clear be
   obtain ⟨c00,c01,c02,c03,c04,c05⟩:=L.b0.a6
   (try go_wp2_with fail)
   go_ret
   exact ⟨rfl, L.below⟩

end Go.Proofs.YtiddbhhhmeopeaaGreatDoor


/- Rows of dyadics; slices.MinFunc and slices.MaxFunc over them. -/
namespace Go.Proofs.YtiddbhhhmeopeaaGreatDoor
set_option maxHeartbeats 64000000
open Go.RowKit
set_option linter.unusedVariables false
set_option linter.unusedSimpArgs false
set_option maxRecDepth 100000
attribute [local go_sem ↓] Go.wp_at_zero Go.wp_at_succ
def RowD (w : World) (v : Value) (l : List (Int × Int)) : Prop:=∃ g c, v = .slice (some ⟨g, 0, none⟩) l.length c ∧ g < w.heap.size ∧ ∀ (j : Nat) (p : Int × Int), l[j]? = some p → ∃ A c, w.cell? ⟨g, 3 * j, none⟩ = some (.bool (ng p.1)) ∧ w.cell? ⟨g, 3 * j + 1, none⟩ = some (.slice A (zl p.1) c) ∧ w.cell? ⟨g, 3 * j + 2, none⟩ = some (.int .i64 p.2) ∧ IsN w (.slice A (zl p.1) c) p.1.natAbs
theorem RowD.mono {w w' : World} {v : Value} {l : List (Int × Int)} (h : RowD w v l) (hb : Below w.heap.size w w') : RowD w' v l:=by
 obtain ⟨g, c, r, hg, h⟩:=h
 refine ⟨g, c, r, Nat.lt_of_lt_of_le hg hb.size, fun j p hp => ?_⟩
 obtain ⟨A, c, h1, h2, h3, h4⟩:=h j p hp
 exact ⟨A, c, (hb.cell (p:=⟨g, 3 * j, none⟩) hg).trans h1, (hb.cell (p:=⟨g, 3 * j + 1, none⟩) hg).trans h2, (hb.cell (p:=⟨g, 3 * j + 2, none⟩) hg).trans h3, h4.mono hb⟩
def dOf (p : Int × Int) : Rat:=dq p.1 p.2
def LoopL (l : List (Int × Int)) (t : Nat) (m e : Int) : Prop:=(m, e) ∈ l ∧ ∀ (j : Nat) (p : Int × Int), j < t → l[j]? = some p → dOf (m, e) ≤ dOf p
def LoopM (l : List (Int × Int)) (t : Nat) (m e : Int) : Prop:=(m, e) ∈ l ∧ ∀ (j : Nat) (p : Int × Int), j < t → l[j]? = some p → dOf p ≤ dOf (m, e)
theorem LoopL.first {l : List (Int × Int)} {m e : Int} (h : l[0]? = some (m, e)) : LoopL l 1 m e:=by
 refine ⟨List.mem_of_getElem? h, fun j p hj hp => ?_⟩
 obtain rfl : j = 0:=by omega
 rw [h] at hp
 obtain rfl:=Option.some.inj hp
 exact Rat.le_refl
theorem LoopM.first {l : List (Int × Int)} {m e : Int} (h : l[0]? = some (m, e)) : LoopM l 1 m e:=by
 refine ⟨List.mem_of_getElem? h, fun j p hj hp => ?_⟩
 obtain rfl : j = 0:=by omega
 rw [h] at hp
 obtain rfl:=Option.some.inj hp
 exact Rat.le_refl
theorem LoopL.all {l : List (Int × Int)} {m e : Int} {n : Nat} (hn : l.length = n) (h : LoopL l n m e) : ∀ q ∈ l, dOf (m, e) ≤ dOf q:=fun q hq => by
 obtain ⟨j, hj, r⟩:=List.getElem_of_mem hq
 exact h.2 j q (by omega) (by rw [← r]; exact List.getElem?_eq_getElem hj)
theorem LoopM.all {l : List (Int × Int)} {m e : Int} {n : Nat} (hn : l.length = n) (h : LoopM l n m e) : ∀ q ∈ l, dOf q ≤ dOf (m, e):=fun q hq => by
 obtain ⟨j, hj, r⟩:=List.getElem_of_mem hq
 exact h.2 j q (by omega) (by rw [← r]; exact List.getElem?_eq_getElem hj)

end Go.Proofs.YtiddbhhhmeopeaaGreatDoor

