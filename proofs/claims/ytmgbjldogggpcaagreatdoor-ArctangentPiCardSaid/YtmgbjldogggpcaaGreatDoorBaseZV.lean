/- Base texts, joined: IvPA, ArPA, ArPC. -/
import Derived.Test.YtmgbjldogggpcaaGreatDoorBaseWV
import Derived.Test.YtmgbjldogggpcaaGreatDoorBaseGV
import Derived.Deep.RegionHeld3
import Derived.Deep.DrawnRows
import Derived.Test.YtmgbjldogggpcaaGreatDoorBaseXV
import Derived.Test.YtmgbjldogggpcaaGreatDoorGrPCV
import Derived.Test.YtmgbjldogggpcaaGreatDoorBaseVV
import Derived.Deep.Cut
import Derived.Deep.CutRange
/- The program's interval: atMost, lesser, greater, Valid, Within, Cmp, Same, Sign. -/
namespace Go.Proofs.YtmgbjldogggpcaaGreatDoor
set_option maxHeartbeats 64000000
open Go.RowKit
set_option linter.unusedVariables false
set_option linter.unusedSimpArgs false
set_option maxRecDepth 100000
attribute [local go_sem ↓] Go.wp_at_zero Go.wp_at_succ

theorem iatmost_any (m e n f : Int) (vx vy : Value) (w : World) (hx : IsD w vx m e) (hy : IsD w vy n f) (lm : zl m ≤ 1000) (ln : zl n ≤ 1000) (he : -70000 ≤ e ∧ e ≤ 70000) (hf : -70000 ≤ f ∧ f ≤ 70000) :
  Calls Tryz.prog 177 #[vx, vy] w (RetB w (decide (dcm m e n f ≤ 0))):=by
 obtain ⟨A, c, rfl, _, hn1⟩:=hx.form
 obtain ⟨B, d, rfl, _, hn2⟩:=hy.form
 have L0:=((Lq.mk0 w).n hn2).n hn1
 have H10:=fun v u W h1 h2 => dcmp_any m e n f v u W h1 h2 (by omega) (by omega) (by omega) (by omega)
 obtain ⟨x1, hx1⟩:=nm9 (dcm m e n f)
 unfold dcm at hx1
 rw [hx1] at H10
 have H1:=Hd9 H10
 clear H10
 show Calls _ _ _ _ (RetB w (decide (cmpI (m * 2 ^ (e - min e f).toNat) (n * 2 ^ (f - min e f).toNat) ≤ 0)))
 rw [hx1]
 clear hx hy hn1 hn2 hx1 lm ln he hf
 go_enter Tryz.func177, Tryz.ntmps177
 go_wp2_with fail
 have L:=((L0.varD (w.heap.size) (by simp) (ng m) A (zl m) c e).varD (w.heap.size + 1) (by simp) (ng n) B (zl n) d f)
 obtain ⟨c00,c01,c02⟩:=L.b0.a3
 obtain ⟨c10,c11,c12⟩:=L.tl.b0.a3
 (try go_wp2_with fail)
 refine (H1.out _ _ _ (isD_n (m:=m) (e:=e) (s:=.slice A (zl m) c) (L.getN (v:=.slice A (zl m) c) (x:=(m).natAbs) (by simp))) (isD_n (m:=n) (e:=f) (s:=.slice B (zl n) d) (L.getN (v:=.slice B (zl n) d) (x:=(n).natAbs) (by simp)))).mono ?_
 rintro e w1 ⟨rfl, be⟩
 clear c00 c01 c02 c10 c11 c12
 replace L:=L.step be
 clear be
 obtain ⟨c00,c01,c02⟩:=L.b0.a3
 (try go_wp2_with fail)
 go_ret
 exact ⟨rfl, L.below⟩
theorem i10valid_any (m e n f : Int) (vx : Value) (w : World) (hx : IsI w vx m e n f) (lm : zl m ≤ 1000) (ln : zl n ≤ 1000) (he : -70000 ≤ e ∧ e ≤ 70000) (hf : -70000 ≤ f ∧ f ≤ 70000) (hv : Dv m e) (hv2 : Dv n f) :
  Calls Tryz.prog 120 #[vx] w (RetB w (decide (dcm m e n f ≤ 0))):=by
 obtain ⟨A, c, B, d, rfl, hn1, hn2⟩:=hx.form
 have L0:=((Lq.mk0 w).n hn2).n hn1
 have hok : ∀ m e : Int, Dv m e → (if m = 0 then decide (e = 0) else fits8 m e) = true:=fun m e h => by
  rcases h with ⟨h1, h2⟩ | ⟨h1, h2⟩
  ·rw [if_pos h1, h2]; rfl
  ·rw [if_neg h1, h2]
 have v1:=fun v W h => dvalid_d m e v W h (by omega)
 have v2:=fun v W h => dvalid_d n f v W h (by omega)
 rw [hok m e hv] at v1
 rw [hok n f hv2] at v2
 have V1:=Hd9 v1
 have V2:=Hd9 v2
 have H10:=fun v u W k1 k2 => iatmost_any m e n f v u W k1 k2 (by omega) (by omega) (by omega) (by omega)
 obtain ⟨b, hb⟩:=nm9 (decide (dcm m e n f ≤ 0))
 rw [hb] at H10
 have H1:=Hd9 H10
 clear H10
 rw [hb]
 clear v1 v2 hok hx hn1 hn2 hb lm ln he hf hv hv2
 go_enter Tryz.func120, Tryz.ntmps120
 go_wp2_with fail
 have L:=(L0.varI (w.heap.size) (by simp) (ng m) A (zl m) c e (ng n) B (zl n) d f)
 obtain ⟨c00,c01,c02,c03,c04,c05⟩:=L.b0.a6
 (try go_wp2_with fail)
 refine (V1.out _ _ (isD_n (m:=m) (e:=e) (s:=.slice A (zl m) c) (L.getN (v:=.slice A (zl m) c) (x:=(m).natAbs) (by simp)))).mono ?_
 rintro e w1 ⟨rfl, be⟩
 clear c00 c01 c02 c03 c04 c05
 replace L:=L.step be
 clear be
 obtain ⟨c00,c01,c02,c03,c04,c05⟩:=L.b0.a6
 (try go_wp2_with fail)
 refine (V2.out _ _ (isD_n (m:=n) (e:=f) (s:=.slice B (zl n) d) (L.getN (v:=.slice B (zl n) d) (x:=(n).natAbs) (by simp)))).mono ?_
 rintro e w2 ⟨rfl, be⟩
 clear c00 c01 c02 c03 c04 c05
 replace L:=L.step be
 clear be
 obtain ⟨c00,c01,c02,c03,c04,c05⟩:=L.b0.a6
 (try go_wp2_with fail)
 refine (H1.out _ _ _ (isD_n (m:=m) (e:=e) (s:=.slice A (zl m) c) (L.getN (v:=.slice A (zl m) c) (x:=(m).natAbs) (by simp))) (isD_n (m:=n) (e:=f) (s:=.slice B (zl n) d) (L.getN (v:=.slice B (zl n) d) (x:=(n).natAbs) (by simp)))).mono ?_
 rintro e w3 ⟨rfl, be⟩
 clear c00 c01 c02 c03 c04 c05
 replace L:=L.step be
 clear be
 obtain ⟨c00,c01,c02,c03,c04,c05⟩:=L.b0.a6
 (try go_wp2_with fail)
 go_ret
 exact ⟨rfl, L.below⟩
theorem i10sign_any (m e n f : Int) (vx : Value) (w : World) (hx : IsI w vx m e n f) (lm : zl m ≤ 1000) (ln : zl n ≤ 1000) (he : -20000 ≤ e ∧ e ≤ 20000) (hf : -20000 ≤ f ∧ f ≤ 20000) :
  Calls Tryz.prog 217 #[vx] w (RetSg w m n):=by
 obtain ⟨A, c, B, d, rfl, hn1, hn2⟩:=hx.form
 have L0:=((Lq.mk0 w).n hn2).n hn1
 have s1:=fun v W h => dsign_any m e v W h (by omega)
 have s2:=fun v W h => dsign_any n f v W h (by omega)
 unfold RetSg
 obtain ⟨x1, hx1⟩:=nm9 (cmpI m 0)
 obtain ⟨x2, hx2⟩:=nm9 (cmpI n 0)
 rw [hx1] at s1
 rw [hx2] at s2
 rw [hx1, hx2]
 have S1:=Hd9 s1
 have S2:=Hd9 s2
 clear s1 s2 hx hn1 hn2 hx1 hx2 lm ln he hf
 by_cases q : x1 = x2
 ·subst q
  rw [if_pos rfl, decide_eq_true rfl]
  have b1 : (x1 == x1) = true:=by simp
  have b2 : (x1 != x1) = false:=by simp
  go_enter Tryz.func217, Tryz.ntmps217
  go_wp2_with fail
  have L:=(L0.varI (w.heap.size) (by simp) (ng m) A (zl m) c e (ng n) B (zl n) d f)
  obtain ⟨c00,c01,c02,c03,c04,c05⟩:=L.b0.a6
  (try go_wp2_with fail)
  refine (S1.out _ _ (isD_n (m:=m) (e:=e) (s:=.slice A (zl m) c) (L.getN (v:=.slice A (zl m) c) (x:=(m).natAbs) (by simp)))).mono ?_
  rintro e w1 ⟨rfl, be⟩
  clear c00 c01 c02 c03 c04 c05
  replace L:=L.step be
  clear be
  obtain ⟨c00,c01,c02,c03,c04,c05⟩:=L.b0.a6
  (try go_wp2_with fail)
  refine (S2.out _ _ (isD_n (m:=n) (e:=f) (s:=.slice B (zl n) d) (L.getN (v:=.slice B (zl n) d) (x:=(n).natAbs) (by simp)))).mono ?_
  rintro e w2 ⟨rfl, be⟩
  clear c00 c01 c02 c03 c04 c05
  replace L:=L.step be
  clear be
  obtain ⟨c00,c01,c02,c03,c04,c05⟩:=L.b0.a6
  (try go_wp2_with fail)
  go_ret2
  exact ⟨rfl, L.below⟩
 ·rw [if_neg q, decide_eq_false q]
  have b1 : (x1 == x2) = false:=by simpa using q
  have b2 : (x1 != x2) = true:=by simpa using q
  go_enter Tryz.func217, Tryz.ntmps217
  go_wp2_with fail
  have L:=(L0.varI (w.heap.size) (by simp) (ng m) A (zl m) c e (ng n) B (zl n) d f)
  obtain ⟨c00,c01,c02,c03,c04,c05⟩:=L.b0.a6
  (try go_wp2_with fail)
  refine (S1.out _ _ (isD_n (m:=m) (e:=e) (s:=.slice A (zl m) c) (L.getN (v:=.slice A (zl m) c) (x:=(m).natAbs) (by simp)))).mono ?_
  rintro e w1 ⟨rfl, be⟩
  clear c00 c01 c02 c03 c04 c05
  replace L:=L.step be
  clear be
  obtain ⟨c00,c01,c02,c03,c04,c05⟩:=L.b0.a6
  (try go_wp2_with fail)
  refine (S2.out _ _ (isD_n (m:=n) (e:=f) (s:=.slice B (zl n) d) (L.getN (v:=.slice B (zl n) d) (x:=(n).natAbs) (by simp)))).mono ?_
  rintro e w2 ⟨rfl, be⟩
  clear c00 c01 c02 c03 c04 c05
  replace L:=L.step be
  clear be
  obtain ⟨c00,c01,c02,c03,c04,c05⟩:=L.b0.a6
  (try go_wp2_with fail)
  go_ret2
  exact ⟨rfl, L.below⟩

end Go.Proofs.YtmgbjldogggpcaaGreatDoor


/- The program's arith: permitted, isEnd, Small. -/
namespace Go.Proofs.YtmgbjldogggpcaaGreatDoor
set_option maxHeartbeats 64000000
open Go.RowKit
set_option linter.unusedVariables false
set_option linter.unusedSimpArgs false
set_option maxRecDepth 100000
attribute [local go_sem ↓] Go.wp_at_zero Go.wp_at_succ

theorem aperm_any (p : Int) (w : World) :
  Calls Tryz.prog 99 #[.int .i64 p] w (fun e w' => e = .returned (.bool (workB p)) ∧ w = w'):=by
 unfold workB
 by_cases q1 : 0 ≤ p
 ·have b1 : decide (0 ≤ p) = true:=decide_eq_true q1
  rw [b1, Bool.true_and]
  go_enter Tryz.func99, Tryz.ntmps99
  go_wp2_with fail
  go_ret
  exact ⟨rfl, rfl⟩
 ·have b1 : decide (0 ≤ p) = false:=decide_eq_false q1
  rw [b1, Bool.false_and]
  go_enter Tryz.func99, Tryz.ntmps99
  go_wp2_with fail
  go_ret
  exact ⟨rfl, rfl⟩
theorem aend_any (m e : Int) (vx : Value) (w : World) (hx : IsD w vx m e) (lm : zl m ≤ 1000) (he : -70000 ≤ e ∧ e ≤ 70000) (hv : Dv m e) :
  Calls Tryz.prog 121 #[vx] w (RetB w (decide (topZ m e ≤ 2048) && onB m e 8192)):=by
 obtain ⟨A, c, rfl, _, hn1⟩:=hx.form
 have L0:=(Lq.mk0 w).n hn1
 have h0 : m = 0 → e = 0:=(fun h0 => by rcases hv with h1 | h1; exact h1.2; exact absurd h0 h1.1)
 have h1:=fun v W h => dtop_any m e v W h (by omega) (by omega) h0
 have h2:=fun v W h => gon_any m e 8192 v W h (by omega) (by omega) (by omega)
 obtain ⟨x1, hx1⟩:=nm9 (topZ m e)
 obtain ⟨b1, hb1⟩:=nm9 (onB m e 8192)
 rw [hx1] at h1 ⊢
 rw [hb1] at h2 ⊢
 have H1:=Hd9 h1
 have H2:=Hd9 h2
 clear h0 h1 h2 hx hn1 lm he hv hx1 hb1
 by_cases q1 : x1 ≤ 2048
 ·have t1 : decide (x1 ≤ 2048) = true:=decide_eq_true q1
  rw [t1, Bool.true_and]
  clear q1
  go_enter Tryz.func121, Tryz.ntmps121
  go_wp2_with fail
  have L:=(L0.varD (w.heap.size) (by simp) (ng m) A (zl m) c e)
  obtain ⟨c00,c01,c02⟩:=L.b0.a3
  (try go_wp2_with fail)
  refine (H1.out _ _ (isD_n (m:=m) (e:=e) (s:=.slice A (zl m) c) (L.getN (v:=.slice A (zl m) c) (x:=(m).natAbs) (by simp)))).mono ?_
  rintro e w1 ⟨rfl, be⟩
  clear c00 c01 c02
  replace L:=L.step be
  clear be
  obtain ⟨c00,c01,c02⟩:=L.b0.a3
  (try go_wp2_with fail)
  refine (H2.out _ _ (isD_n (m:=m) (e:=e) (s:=.slice A (zl m) c) (L.getN (v:=.slice A (zl m) c) (x:=(m).natAbs) (by simp)))).mono ?_
  rintro e w2 ⟨rfl, be⟩
  clear c00 c01 c02
  replace L:=L.step be
  clear be
  obtain ⟨c00,c01,c02⟩:=L.b0.a3
  (try go_wp2_with fail)
  go_ret
  exact ⟨rfl, L.below⟩
 ·have t1 : decide (x1 ≤ 2048) = false:=decide_eq_false q1
  rw [t1, Bool.false_and]
  clear q1
  go_enter Tryz.func121, Tryz.ntmps121
  go_wp2_with fail
  have L:=(L0.varD (w.heap.size) (by simp) (ng m) A (zl m) c e)
  obtain ⟨c00,c01,c02⟩:=L.b0.a3
  (try go_wp2_with fail)
  refine (H1.out _ _ (isD_n (m:=m) (e:=e) (s:=.slice A (zl m) c) (L.getN (v:=.slice A (zl m) c) (x:=(m).natAbs) (by simp)))).mono ?_
  rintro e w1 ⟨rfl, be⟩
  clear c00 c01 c02
  replace L:=L.step be
  clear be
  obtain ⟨c00,c01,c02⟩:=L.b0.a3
  (try go_wp2_with fail)
  go_ret
  exact ⟨rfl, L.below⟩
theorem small_perm : ∀ a b c d e : Bool, (a && (b && (c && (d && e)))) = ((a && (b && d)) && (c && e)):=by decide
theorem asmall_any (m e n f : Int) (vx : Value) (w : World) (hx : IsI w vx m e n f) (lm : zl m ≤ 1000) (ln : zl n ≤ 1000) (he : -70000 ≤ e ∧ e ≤ 70000) (hf : -70000 ≤ f ∧ f ≤ 70000) (hv : Dv m e) (hv2 : Dv n f) :
  Calls Tryz.prog 51 #[vx] w (RetB w (smallB m e n f)):=by
 obtain ⟨A, c, B, d, rfl, hn1, hn2⟩:=hx.form
 have L0:=((Lq.mk0 w).n hn2).n hn1
 have h0:=fun v W h => i10valid_any m e n f v W h lm ln he hf hv hv2
 have h1:=fun v W h => aend_any m e v W h lm he hv
 have h2:=fun v W h => aend_any n f v W h ln hf hv2
 unfold smallB
 rw [small_perm]
 obtain ⟨b0, hb0⟩:=nm9 (decide (dcm m e n f ≤ 0))
 obtain ⟨b1, hb1⟩:=nm9 ((decide (topZ m e ≤ 2048) && onB m e 8192))
 obtain ⟨b2, hb2⟩:=nm9 ((decide (topZ n f ≤ 2048) && onB n f 8192))
 rw [hb0] at h0 ⊢
 rw [hb1] at h1 ⊢
 rw [hb2] at h2 ⊢
 have H0:=Hd9 h0
 have H1:=Hd9 h1
 have H2:=Hd9 h2
 have hxx:=Hd9 hx
 clear h0 h1 h2 hb0 hb1 hb2 hx hn1 hn2 lm ln he hf hv hv2
 clear hxx
 cases b0
 ·rw [Bool.false_and, Bool.false_and]
  go_enter Tryz.func51, Tryz.ntmps51
  go_wp2_with fail
  have L:=(L0.varI (w.heap.size) (by simp) (ng m) A (zl m) c e (ng n) B (zl n) d f)
  obtain ⟨c00,c01,c02,c03,c04,c05⟩:=L.b0.a6
  (try go_wp2_with fail)
  refine (H0.out _ _ (isI_n (m:=m) (e:=e) (n:=n) (f:=f) (L.getN (v:=.slice A (zl m) c) (x:=(m).natAbs) (by simp)) (L.getN (v:=.slice B (zl n) d) (x:=(n).natAbs) (by simp)))).mono ?_
  rintro e w1 ⟨rfl, be⟩
  clear c00 c01 c02 c03 c04 c05
  replace L:=L.step be
  clear be
  obtain ⟨c00,c01,c02,c03,c04,c05⟩:=L.b0.a6
  (try go_wp2_with fail)
  go_ret
  exact ⟨rfl, L.below⟩
 ·rw [Bool.true_and]
  cases b1
  ·rw [Bool.false_and]
   go_enter Tryz.func51, Tryz.ntmps51
   go_wp2_with fail
   have L:=(L0.varI (w.heap.size) (by simp) (ng m) A (zl m) c e (ng n) B (zl n) d f)
   obtain ⟨c00,c01,c02,c03,c04,c05⟩:=L.b0.a6
   (try go_wp2_with fail)
   refine (H0.out _ _ (isI_n (m:=m) (e:=e) (n:=n) (f:=f) (L.getN (v:=.slice A (zl m) c) (x:=(m).natAbs) (by simp)) (L.getN (v:=.slice B (zl n) d) (x:=(n).natAbs) (by simp)))).mono ?_
   rintro e w1 ⟨rfl, be⟩
   clear c00 c01 c02 c03 c04 c05
   replace L:=L.step be
   clear be
   obtain ⟨c00,c01,c02,c03,c04,c05⟩:=L.b0.a6
   (try go_wp2_with fail)
   refine (H1.out _ _ (isD_n (m:=m) (e:=e) (s:=.slice A (zl m) c) (L.getN (v:=.slice A (zl m) c) (x:=(m).natAbs) (by simp)))).mono ?_
   rintro e w2 ⟨rfl, be⟩
   clear c00 c01 c02 c03 c04 c05
   replace L:=L.step be
   clear be
   obtain ⟨c00,c01,c02,c03,c04,c05⟩:=L.b0.a6
   (try go_wp2_with fail)
   go_ret
   exact ⟨rfl, L.below⟩
  ·rw [Bool.true_and]
   go_enter Tryz.func51, Tryz.ntmps51
   go_wp2_with fail
   have L:=(L0.varI (w.heap.size) (by simp) (ng m) A (zl m) c e (ng n) B (zl n) d f)
   obtain ⟨c00,c01,c02,c03,c04,c05⟩:=L.b0.a6
   (try go_wp2_with fail)
   refine (H0.out _ _ (isI_n (m:=m) (e:=e) (n:=n) (f:=f) (L.getN (v:=.slice A (zl m) c) (x:=(m).natAbs) (by simp)) (L.getN (v:=.slice B (zl n) d) (x:=(n).natAbs) (by simp)))).mono ?_
   rintro e w1 ⟨rfl, be⟩
   clear c00 c01 c02 c03 c04 c05
   replace L:=L.step be
   clear be
   obtain ⟨c00,c01,c02,c03,c04,c05⟩:=L.b0.a6
   (try go_wp2_with fail)
   refine (H1.out _ _ (isD_n (m:=m) (e:=e) (s:=.slice A (zl m) c) (L.getN (v:=.slice A (zl m) c) (x:=(m).natAbs) (by simp)))).mono ?_
   rintro e w2 ⟨rfl, be⟩
   clear c00 c01 c02 c03 c04 c05
   replace L:=L.step be
   clear be
   obtain ⟨c00,c01,c02,c03,c04,c05⟩:=L.b0.a6
   (try go_wp2_with fail)
   refine (H2.out _ _ (isD_n (m:=n) (e:=f) (s:=.slice B (zl n) d) (L.getN (v:=.slice B (zl n) d) (x:=(n).natAbs) (by simp)))).mono ?_
   rintro e w3 ⟨rfl, be⟩
   clear c00 c01 c02 c03 c04 c05
   replace L:=L.step be
   clear be
   obtain ⟨c00,c01,c02,c03,c04,c05⟩:=L.b0.a6
   (try go_wp2_with fail)
   go_ret
   exact ⟨rfl, L.below⟩

end Go.Proofs.YtmgbjldogggpcaaGreatDoor


/- Rows of dyadics; slices.MinFunc and slices.MaxFunc over them. -/
namespace Go.Proofs.YtmgbjldogggpcaaGreatDoor
set_option maxHeartbeats 64000000
open Go.RowKit
set_option linter.unusedVariables false
set_option linter.unusedSimpArgs false
set_option maxRecDepth 100000
attribute [local go_sem ↓] Go.wp_at_zero Go.wp_at_succ

theorem Lq.top1 {w0 w : World} {p : Value × Nat} {ns : List (Value × Nat)} {zs : List (Value × Int)} {qs : List (Value × Int × Nat)} {bs : List (Nat × TypeId × Array Value)} (h : Lq w0 w (p :: ns) zs qs bs) : Lq w0 w [p] [] [] bs:=
 ⟨h.below, fun x hx => h.ns x (by simp only [List.mem_cons, List.not_mem_nil, or_false] at hx; rw [hx]; exact mS), fun _ x => (by cases x), fun _ x => (by cases x), h.bs⟩
def RowD (w : World) (v : Value) (l : List (Int × Int)) : Prop:=∃ g c, v = .slice (some ⟨g, 0, none⟩) l.length c ∧ g < w.heap.size ∧ ∀ (j : Nat) (p : Int × Int), l[j]? = some p → ∃ A c, w.cell? ⟨g, 3 * j, none⟩ = some (.bool (ng p.1)) ∧ w.cell? ⟨g, 3 * j + 1, none⟩ = some (.slice A (zl p.1) c) ∧ w.cell? ⟨g, 3 * j + 2, none⟩ = some (.int .i64 p.2) ∧ IsN w (.slice A (zl p.1) c) p.1.natAbs
theorem RowD.mono {w w' : World} {v : Value} {l : List (Int × Int)} (h : RowD w v l) (hb : Below w.heap.size w w') : RowD w' v l:=by
 obtain ⟨g, c, r, hg, h⟩:=h
 refine ⟨g, c, r, Nat.lt_of_lt_of_le hg hb.size, fun j p hp => ?_⟩
 obtain ⟨A, c, h1, h2, h3, h4⟩:=h j p hp
 exact ⟨A, c, (hb.cell (p:=⟨g, 3 * j, none⟩) hg).trans h1, (hb.cell (p:=⟨g, 3 * j + 1, none⟩) hg).trans h2, (hb.cell (p:=⟨g, 3 * j + 2, none⟩) hg).trans h3, h4.mono hb⟩
def dOf (p : Int × Int) : Rat:=dq p.1 p.2
def RetLst (w : World) (l : List (Int × Int)) (en : Ending) (w' : World) : Prop:=∃ v m e, en = .returned v ∧ IsD w' v m e ∧ (m, e) ∈ l ∧ (∀ p ∈ l, dOf (m, e) ≤ dOf p) ∧ Below w.heap.size w w'
def RetMst (w : World) (l : List (Int × Int)) (en : Ending) (w' : World) : Prop:=∃ v m e, en = .returned v ∧ IsD w' v m e ∧ (m, e) ∈ l ∧ (∀ p ∈ l, dOf p ≤ dOf (m, e)) ∧ Below w.heap.size w w'
def LoopL (l : List (Int × Int)) (t : Nat) (m e : Int) : Prop:=(m, e) ∈ l ∧ ∀ (j : Nat) (p : Int × Int), j < t → l[j]? = some p → dOf (m, e) ≤ dOf p
def LoopM (l : List (Int × Int)) (t : Nat) (m e : Int) : Prop:=(m, e) ∈ l ∧ ∀ (j : Nat) (p : Int × Int), j < t → l[j]? = some p → dOf p ≤ dOf (m, e)
theorem LoopL.first {l : List (Int × Int)} {m e : Int} (h : l[0]? = some (m, e)) : LoopL l 1 m e:=by
 refine ⟨List.mem_of_getElem? h, fun j p hj hp => ?_⟩
 obtain rfl : j = 0:=by omega
 rw [h] at hp
 obtain rfl:=Option.some.inj hp
 exact Rat.le_refl
theorem LoopM.first {l : List (Int × Int)} {m e : Int} (h : l[0]? = some (m, e)) : LoopM l 1 m e:=by
 refine ⟨List.mem_of_getElem? h, fun j p hj hp => ?_⟩
 obtain rfl : j = 0:=by omega
 rw [h] at hp
 obtain rfl:=Option.some.inj hp
 exact Rat.le_refl
theorem LoopL.step {l : List (Int × Int)} {t : Nat} {m e a b m' e' : Int} (h : LoopL l t m e) (hp : l[t]? = some (a, b)) (hm : (m', e') ∈ l) (x1 : dOf (m', e') ≤ dOf (m, e)) (x2 : dOf (m', e') ≤ dOf (a, b)) : LoopL l (t + 1) m' e':=by
 refine ⟨hm, fun j p hj hjp => ?_⟩
 rcases Nat.lt_or_ge j t with h1 | h1
 ·exact Rat.le_trans x1 (h.2 j p h1 hjp)
 ·obtain rfl : j = t:=by omega
  rw [hp] at hjp
  obtain rfl:=Option.some.inj hjp
  exact x2
theorem LoopM.step {l : List (Int × Int)} {t : Nat} {m e a b m' e' : Int} (h : LoopM l t m e) (hp : l[t]? = some (a, b)) (hm : (m', e') ∈ l) (x1 : dOf (m, e) ≤ dOf (m', e')) (x2 : dOf (a, b) ≤ dOf (m', e')) : LoopM l (t + 1) m' e':=by
 refine ⟨hm, fun j p hj hjp => ?_⟩
 rcases Nat.lt_or_ge j t with h1 | h1
 ·exact Rat.le_trans (h.2 j p h1 hjp) x1
 ·obtain rfl : j = t:=by omega
  rw [hp] at hjp
  obtain rfl:=Option.some.inj hjp
  exact x2
theorem LoopL.all {l : List (Int × Int)} {m e : Int} {n : Nat} (hn : l.length = n) (h : LoopL l n m e) : ∀ q ∈ l, dOf (m, e) ≤ dOf q:=fun q hq => by
 obtain ⟨j, hj, r⟩:=List.getElem_of_mem hq
 exact h.2 j q (by omega) (by rw [← r]; exact List.getElem?_eq_getElem hj)
theorem LoopM.all {l : List (Int × Int)} {m e : Int} {n : Nat} (hn : l.length = n) (h : LoopM l n m e) : ∀ q ∈ l, dOf q ≤ dOf (m, e):=fun q hq => by
 obtain ⟨j, hj, r⟩:=List.getElem_of_mem hq
 exact h.2 j q (by omega) (by rw [← r]; exact List.getElem?_eq_getElem hj)

theorem aminf_any (l : List (Int × Int)) (vl : Value) (w : World) (hl : RowD w vl l) (h0 : 0 < l.length) (hsz : l.length ≤ 1000) (hb : ∀ p ∈ l, zl p.1 ≤ 1000 ∧ (-20000 ≤ p.2 ∧ p.2 ≤ 20000)) :
  Calls Tryz.prog 152 #[vl, .func (.func 54) #[] #[]] w (RetLst w l):=by
 obtain ⟨g, c, rfl, hg, hrow⟩:=hl
 obtain ⟨⟨m0, e0⟩, hp0⟩ : ∃ p, l[0]? = some p:=⟨l[0], List.getElem?_eq_getElem h0⟩
 obtain ⟨A0, c0, r0, r1, r2, r3⟩:=hrow 0 _ hp0
 dsimp only at r0 r1 r2 r3
 rw [Nat.mul_zero] at r0 r1 r2
 rw [Nat.zero_add] at r1 r2
 obtain ⟨n, hn⟩:=nm9 (l.length)
 rw [hn] at h0 hsz ⊢
 have b1 : decide ((n : Int) < 1) = false:=decide_eq_false (by omega)
 have hn0 : (0 : Int) < (n : Int):=by omega
 have HF:=Hd9 (LoopL.first hp0)
 have HN:=Hd9 hn
 have HROW0:=Hd9 hrow
 have HB:=Hd9 hb
 clear hp0 hn hrow hb
 go_enter Tryz.func152, Tryz.ntmps152
 have L:=((Lq.mk0 w).varD (w.heap.size) (by simp) false none 0 0 0)
 obtain ⟨c00,c01,c02⟩:=L.b0.a3
 obtain ⟨f00,f01,f02⟩:=L.b0.f3
 have q0:=(L.below.cell (p:=⟨g, 0, none⟩) hg).trans r0
 have q1:=(L.below.cell (p:=⟨g, 1, none⟩) hg).trans r1
 have q2:=(L.below.cell (p:=⟨g, 2, none⟩) hg).trans r2
 have in0:=r3.mono L.below
 have LN:=L.varD (w.heap.size + 1) (by simp) (ng m0) A0 (zl m0) c0 e0
 obtain ⟨v0,v1,v2⟩:=LN.b0.a3
 clear r0 r1 r2 r3
 go_wp2_with fail
 clear LN v0 v1 v2 q0 q1 q2
 clear c00 f00 c01 f01 c02 f02
 obtain ⟨V, hV⟩:=nm9 (w.alloc (.cells #[.bool false, .slice none 0 0, .int .i64 0] 26))
 have hK : w.heap.size + 1 = V.heap.size:=by rw [← hV]; simp
 rw [hV] at L in0 ⊢
 rw [hK]
 clear hV
 have hwV:=L.b0.lt
 have hgV : g < V.heap.size:=by omega
 have HROW:=Hd9 (fun Z (hZ : Below V.heap.size V Z) (j : Nat) (p : Int × Int) (hp : l[j]? = some p) => (show ∃ A c, Z.cell? ⟨g, 3 * j, none⟩ = some (.bool (ng p.1)) ∧ Z.cell? ⟨g, 3 * j + 1, none⟩ = some (.slice A (zl p.1) c) ∧ Z.cell? ⟨g, 3 * j + 2, none⟩ = some (.int .i64 p.2) ∧ IsN Z (.slice A (zl p.1) c) p.1.natAbs from by
  obtain ⟨A, c, x1, x2, x3, x4⟩:=HROW0.out j p hp
  have hbz:=L.below.trans (hZ.mono L.below.size)
  exact ⟨A, c, (hbz.cell (p:=⟨g, 3 * j, none⟩) hg).trans x1, (hbz.cell (p:=⟨g, 3 * j + 1, none⟩) hg).trans x2, (hbz.cell (p:=⟨g, 3 * j + 2, none⟩) hg).trans x3, x4.mono hbz⟩))
 have LL:=Hd9 L
 clear L HROW0
 have L:=((Lq.mk0 V).n in0).varD V.heap.size rfl (ng m0) A0 (zl m0) c0 e0
 clear in0
 obtain ⟨g5, hg5⟩:=nm9 (V.heap.size)
 rw [hg5] at L ⊢
 go_loopw [6] (fun i wr => ∃ (t : Nat) (m1 e1 : Int) (A1 : Option Addr) (c1 : Nat), i = .int .i64 (t : Int) ∧ 1 ≤ t ∧ t ≤ n ∧ Lq V wr [(.slice A1 (zl m1) c1, m1.natAbs)] [] [] [(g5, 26, #[.bool (ng m1), .slice A1 (zl m1) c1, .int .i64 e1])] ∧ Hid (LoopL l t m1 e1)) (fun i _ => n - (intOf i).toNat)
 case atStart => exact ⟨1, m0, e0, A0, c0, rfl, by omega, by omega, L, HF⟩
 case round =>
  clear L HF
  obtain ⟨t, m1, e1, A1, c1, rfl, ht0, ht, L, HF⟩:=hrel
  rcases Nat.eq_or_lt_of_le ht with rfl | ht3
  ·have ha:=HF.out.all HN.out
   have hm:=HF.out.1
   have hv5:=L.b0
   have L:=(((LL.out.step L.below).n (L.getN (v:=.slice A1 (zl m1) c1) (x:=m1.natAbs) (by simp))).b hv5).swap
   have hg50 : w.heap.size ≠ g5:=by omega
   have HA:=Hd9 ha
   have HMM:=Hd9 hm
   clear hv5 HF HROW ha hm
   obtain ⟨c00,c01,c02⟩:=L.b0.a3
   obtain ⟨f00,f01,f02⟩:=L.b0.f3
   obtain ⟨c10,c11,c12⟩:=L.tl.b0.a3
   go_wp2_with fail
   have LP:=L.putD (by omega) (by first | (simp; done) | (simp; omega)) (ng m1) A1 (zl m1) c1 (e1)
   obtain ⟨k0,k1,k2⟩:=LP.b0.a3
   unfold put3 at k0 k1 k2
   exact bodyPost_ret (v:=.agg #[.bool (ng m1), .slice A1 (zl m1) c1, .int .i64 (e1)]) (by simp [results, Tryz.results152, go_sem, k0, k1, k2]) rfl ⟨_, _, _, rfl, isD_n (LP.getN (by simp)), HMM.out, HA.out, LP.below⟩
  ·obtain ⟨⟨m2, e2⟩, hp⟩ : ∃ p, l[t]? = some p:=⟨_, List.getElem?_eq_getElem (by rw [HN.out]; exact ht3)⟩
   have HR:=Hd9 (fun Z (hZ : Below V.heap.size V Z) => HROW.out Z hZ t _ hp)
   obtain ⟨A2, c2, y0, y1, y2, y3⟩:=HROW.out _ L.below t _ hp
   dsimp only at y0 y1 y2 y3
   rw [Nat.mul_comm 3 t] at y0 y1 y2
   have hd:=HB.out _ (List.mem_of_getElem? hp)
   have hd1:=HB.out _ HF.out.1
   dsimp only at hd hd1
   have C0:=fun v u W h1 h2 => dcmp_any m2 e2 m1 e1 v u W h1 h2 (by omega) (by omega) (by omega) (by omega)
   have j1:=dcm_lt m2 e2 m1 e1
   have j2:=dcm_le m2 e2 m1 e1
   have j3:=dcm_ge m2 e2 m1 e1
   obtain ⟨x, hx⟩:=nm9 (dcm m2 e2 m1 e1)
   rw [hx] at j1 j2 j3
   unfold dcm at hx
   rw [hx] at C0
   have C1:=Hd9 C0
   have J1:=Hd9 j1
   have J2:=Hd9 j2
   have J3:=Hd9 j3
   have HP:=Hd9 hp
   have hlt : (t : Int) < (n : Int):=by omega
   have htz : (0 : Int) ≤ (t : Int):=by omega
   have hgl:=L.b0.lt
   clear hp C0 j1 j2 j3 hx hd hd1 HR
   have hgw : g < wr.heap.size:=by have:=L.below.size; omega
   have Q0:=Hd9 (fun Z (hZ : Below wr.heap.size wr Z) => (hZ.cell (p:=⟨g, t * 3, none⟩) hgw).trans y0)
   have Q1:=Hd9 (fun Z (hZ : Below wr.heap.size wr Z) => (hZ.cell (p:=⟨g, t * 3 + 1, none⟩) hgw).trans y1)
   have Q2:=Hd9 (fun Z (hZ : Below wr.heap.size wr Z) => (hZ.cell (p:=⟨g, t * 3 + 2, none⟩) hgw).trans y2)
   have hb5:=L.b0
   have hbV:=L.below
   have LW:=Hd9 L
   have L:=(((Lq.mk0 wr).n y3).n (L.getN (v:=.slice A1 (zl m1) c1) (x:=m1.natAbs) (by simp))).b hb5
   clear y0 y1 y2 y3 hb5
   go_wp2_with fail
   replace L:=L.drew
   have cel0:=Q0.out _ L.below
   have cel1:=Q1.out _ L.below
   have cel2:=Q2.out _ L.below
   obtain ⟨cel3,cel4,cel5⟩:=L.b0.a3
   go_region_held3 (fun w' => w'.cell? ⟨g, t * 3, none⟩ = some (.bool (ng m2)) ∧ w'.cell? ⟨g, t * 3 + 1, none⟩ = some (.slice A2 (zl m2) c2) ∧ w'.cell? ⟨g, t * 3 + 2, none⟩ = some (.int .i64 e2) ∧ w'.cell? ⟨g5, 0, none⟩ = some (.bool (ng m1)) ∧ w'.cell? ⟨g5, 1, none⟩ = some (.slice A1 (zl m1) c1) ∧ w'.cell? ⟨g5, 2, none⟩ = some (.int .i64 e1)) (first | (with_reducible exact ⟨Q0.out _ L.below, Q1.out _ L.below, Q2.out _ L.below, L.b0.c30, L.b0.c31, L.b0.c32⟩) | exact ⟨Q0.out _ L.below, Q1.out _ L.below, Q2.out _ L.below, L.b0.c30, L.b0.c31, L.b0.c32⟩) (first | (go_at_call 54; (with_reducible refine (C1.out _ _ _ ?_ ?_).mono ?_); (· (refine isD_n (L.getN ?_); (repeat (first | (with_reducible exact mS) | apply mT)))); (· (refine isD_n (L.getN ?_); (repeat (first | (with_reducible exact mS) | apply mT)))); rintro e wh ⟨rfl, be⟩; replace L:=L.step be; clear be))
   clear cel0 cel1 cel2 cel3 cel4 cel5
   by_cases yy : x < 0
   ·have t1 : decide (x < 0) = true:=decide_eq_true yy
    have cel0:=Q0.out _ L.below
    have cel1:=Q1.out _ L.below
    have cel2:=Q2.out _ L.below
    obtain ⟨cel3,cel4,cel5⟩:=L.b0.a3
    obtain ⟨fr0,fr1,fr2⟩:=L.b0.f3
    have hbw:=hbV.trans (L.below.mono hbV.size)
    have P:=((Lq.mk0 V).step hbw)
    replace P:=((P.n (L.getN (v:=.slice A1 (zl m1) c1) (x:=m1.natAbs) (by simp))).n (L.getN (v:=.slice A2 (zl m2) c2) (x:=m2.natAbs) (by simp))).b L.b0
    replace P:=P.putD (by omega) (by simp) (ng m2) A2 (zl m2) c2 e2
    unfold put3 at P
    go_wp2_with fail
    go_roundw
    case rel => exact ⟨t + 1, m2, e2, A2, c2, by go_num, by omega, by omega, P.top1, Hd9 (HF.out.step HP.out (List.mem_of_getElem? HP.out) (Rat.le_of_lt (J1.out.1 yy)) Rat.le_refl)⟩
    case measure => simp [intOf]; omega
   ·have t1 : decide (x < 0) = false:=decide_eq_false yy
    have cel0:=Q0.out _ L.below
    have cel1:=Q1.out _ L.below
    have cel2:=Q2.out _ L.below
    obtain ⟨cel3,cel4,cel5⟩:=L.b0.a3
    obtain ⟨fr0,fr1,fr2⟩:=L.b0.f3
    have hbw:=hbV.trans (L.below.mono hbV.size)
    have P:=((Lq.mk0 V).step hbw)
    replace P:=((P.n (L.getN (v:=.slice A2 (zl m2) c2) (x:=m2.natAbs) (by simp))).n (L.getN (v:=.slice A1 (zl m1) c1) (x:=m1.natAbs) (by simp))).b L.b0
    go_wp2_with fail
    go_roundw
    case rel => exact ⟨t + 1, m1, e1, A1, c1, by go_num, by omega, by omega, P.top1, Hd9 (HF.out.step HP.out HF.out.1 Rat.le_refl (J3.out.1 (by omega)))⟩
    case measure => simp [intOf]; omega
theorem amaxf_any (l : List (Int × Int)) (vl : Value) (w : World) (hl : RowD w vl l) (h0 : 0 < l.length) (hsz : l.length ≤ 1000) (hb : ∀ p ∈ l, zl p.1 ≤ 1000 ∧ (-20000 ≤ p.2 ∧ p.2 ≤ 20000)) :
  Calls Tryz.prog 153 #[vl, .func (.func 54) #[] #[]] w (RetMst w l):=by
 obtain ⟨g, c, rfl, hg, hrow⟩:=hl
 obtain ⟨⟨m0, e0⟩, hp0⟩ : ∃ p, l[0]? = some p:=⟨l[0], List.getElem?_eq_getElem h0⟩
 obtain ⟨A0, c0, r0, r1, r2, r3⟩:=hrow 0 _ hp0
 dsimp only at r0 r1 r2 r3
 rw [Nat.mul_zero] at r0 r1 r2
 rw [Nat.zero_add] at r1 r2
 obtain ⟨n, hn⟩:=nm9 (l.length)
 rw [hn] at h0 hsz ⊢
 have b1 : decide ((n : Int) < 1) = false:=decide_eq_false (by omega)
 have hn0 : (0 : Int) < (n : Int):=by omega
 have HF:=Hd9 (LoopM.first hp0)
 have HN:=Hd9 hn
 have HROW0:=Hd9 hrow
 have HB:=Hd9 hb
 clear hp0 hn hrow hb
 go_enter Tryz.func153, Tryz.ntmps153
 have L:=((Lq.mk0 w).varD (w.heap.size) (by simp) false none 0 0 0)
 obtain ⟨c00,c01,c02⟩:=L.b0.a3
 obtain ⟨f00,f01,f02⟩:=L.b0.f3
 have q0:=(L.below.cell (p:=⟨g, 0, none⟩) hg).trans r0
 have q1:=(L.below.cell (p:=⟨g, 1, none⟩) hg).trans r1
 have q2:=(L.below.cell (p:=⟨g, 2, none⟩) hg).trans r2
 have in0:=r3.mono L.below
 have LN:=L.varD (w.heap.size + 1) (by simp) (ng m0) A0 (zl m0) c0 e0
 obtain ⟨v0,v1,v2⟩:=LN.b0.a3
 clear r0 r1 r2 r3
 go_wp2_with fail
 clear LN v0 v1 v2 q0 q1 q2
 clear c00 f00 c01 f01 c02 f02
 obtain ⟨V, hV⟩:=nm9 (w.alloc (.cells #[.bool false, .slice none 0 0, .int .i64 0] 26))
 have hK : w.heap.size + 1 = V.heap.size:=by rw [← hV]; simp
 rw [hV] at L in0 ⊢
 rw [hK]
 clear hV
 have hwV:=L.b0.lt
 have hgV : g < V.heap.size:=by omega
 have HROW:=Hd9 (fun Z (hZ : Below V.heap.size V Z) (j : Nat) (p : Int × Int) (hp : l[j]? = some p) => (show ∃ A c, Z.cell? ⟨g, 3 * j, none⟩ = some (.bool (ng p.1)) ∧ Z.cell? ⟨g, 3 * j + 1, none⟩ = some (.slice A (zl p.1) c) ∧ Z.cell? ⟨g, 3 * j + 2, none⟩ = some (.int .i64 p.2) ∧ IsN Z (.slice A (zl p.1) c) p.1.natAbs from by
  obtain ⟨A, c, x1, x2, x3, x4⟩:=HROW0.out j p hp
  have hbz:=L.below.trans (hZ.mono L.below.size)
  exact ⟨A, c, (hbz.cell (p:=⟨g, 3 * j, none⟩) hg).trans x1, (hbz.cell (p:=⟨g, 3 * j + 1, none⟩) hg).trans x2, (hbz.cell (p:=⟨g, 3 * j + 2, none⟩) hg).trans x3, x4.mono hbz⟩))
 have LL:=Hd9 L
 clear L HROW0
 have L:=((Lq.mk0 V).n in0).varD V.heap.size rfl (ng m0) A0 (zl m0) c0 e0
 clear in0
 obtain ⟨g5, hg5⟩:=nm9 (V.heap.size)
 rw [hg5] at L ⊢
 go_loopw [6] (fun i wr => ∃ (t : Nat) (m1 e1 : Int) (A1 : Option Addr) (c1 : Nat), i = .int .i64 (t : Int) ∧ 1 ≤ t ∧ t ≤ n ∧ Lq V wr [(.slice A1 (zl m1) c1, m1.natAbs)] [] [] [(g5, 26, #[.bool (ng m1), .slice A1 (zl m1) c1, .int .i64 e1])] ∧ Hid (LoopM l t m1 e1)) (fun i _ => n - (intOf i).toNat)
 case atStart => exact ⟨1, m0, e0, A0, c0, rfl, by omega, by omega, L, HF⟩
 case round =>
  clear L HF
  obtain ⟨t, m1, e1, A1, c1, rfl, ht0, ht, L, HF⟩:=hrel
  rcases Nat.eq_or_lt_of_le ht with rfl | ht3
  ·have ha:=HF.out.all HN.out
   have hm:=HF.out.1
   have hv5:=L.b0
   have L:=(((LL.out.step L.below).n (L.getN (v:=.slice A1 (zl m1) c1) (x:=m1.natAbs) (by simp))).b hv5).swap
   have hg50 : w.heap.size ≠ g5:=by omega
   have HA:=Hd9 ha
   have HMM:=Hd9 hm
   clear hv5 HF HROW ha hm
   obtain ⟨c00,c01,c02⟩:=L.b0.a3
   obtain ⟨f00,f01,f02⟩:=L.b0.f3
   obtain ⟨c10,c11,c12⟩:=L.tl.b0.a3
   go_wp2_with fail
   have LP:=L.putD (by omega) (by first | (simp; done) | (simp; omega)) (ng m1) A1 (zl m1) c1 (e1)
   obtain ⟨k0,k1,k2⟩:=LP.b0.a3
   unfold put3 at k0 k1 k2
   exact bodyPost_ret (v:=.agg #[.bool (ng m1), .slice A1 (zl m1) c1, .int .i64 (e1)]) (by simp [results, Tryz.results153, go_sem, k0, k1, k2]) rfl ⟨_, _, _, rfl, isD_n (LP.getN (by simp)), HMM.out, HA.out, LP.below⟩
  ·obtain ⟨⟨m2, e2⟩, hp⟩ : ∃ p, l[t]? = some p:=⟨_, List.getElem?_eq_getElem (by rw [HN.out]; exact ht3)⟩
   have HR:=Hd9 (fun Z (hZ : Below V.heap.size V Z) => HROW.out Z hZ t _ hp)
   obtain ⟨A2, c2, y0, y1, y2, y3⟩:=HROW.out _ L.below t _ hp
   dsimp only at y0 y1 y2 y3
   rw [Nat.mul_comm 3 t] at y0 y1 y2
   have hd:=HB.out _ (List.mem_of_getElem? hp)
   have hd1:=HB.out _ HF.out.1
   dsimp only at hd hd1
   have C0:=fun v u W h1 h2 => dcmp_any m2 e2 m1 e1 v u W h1 h2 (by omega) (by omega) (by omega) (by omega)
   have j1:=dcm_lt m2 e2 m1 e1
   have j2:=dcm_le m2 e2 m1 e1
   have j3:=dcm_ge m2 e2 m1 e1
   obtain ⟨x, hx⟩:=nm9 (dcm m2 e2 m1 e1)
   rw [hx] at j1 j2 j3
   unfold dcm at hx
   rw [hx] at C0
   have C1:=Hd9 C0
   have J1:=Hd9 j1
   have J2:=Hd9 j2
   have J3:=Hd9 j3
   have HP:=Hd9 hp
   have hlt : (t : Int) < (n : Int):=by omega
   have htz : (0 : Int) ≤ (t : Int):=by omega
   have hgl:=L.b0.lt
   clear hp C0 j1 j2 j3 hx hd hd1 HR
   have hgw : g < wr.heap.size:=by have:=L.below.size; omega
   have Q0:=Hd9 (fun Z (hZ : Below wr.heap.size wr Z) => (hZ.cell (p:=⟨g, t * 3, none⟩) hgw).trans y0)
   have Q1:=Hd9 (fun Z (hZ : Below wr.heap.size wr Z) => (hZ.cell (p:=⟨g, t * 3 + 1, none⟩) hgw).trans y1)
   have Q2:=Hd9 (fun Z (hZ : Below wr.heap.size wr Z) => (hZ.cell (p:=⟨g, t * 3 + 2, none⟩) hgw).trans y2)
   have hb5:=L.b0
   have hbV:=L.below
   have LW:=Hd9 L
   have L:=(((Lq.mk0 wr).n y3).n (L.getN (v:=.slice A1 (zl m1) c1) (x:=m1.natAbs) (by simp))).b hb5
   clear y0 y1 y2 y3 hb5
   go_wp2_with fail
   replace L:=L.drew
   have cel0:=Q0.out _ L.below
   have cel1:=Q1.out _ L.below
   have cel2:=Q2.out _ L.below
   obtain ⟨cel3,cel4,cel5⟩:=L.b0.a3
   go_region_held3 (fun w' => w'.cell? ⟨g, t * 3, none⟩ = some (.bool (ng m2)) ∧ w'.cell? ⟨g, t * 3 + 1, none⟩ = some (.slice A2 (zl m2) c2) ∧ w'.cell? ⟨g, t * 3 + 2, none⟩ = some (.int .i64 e2) ∧ w'.cell? ⟨g5, 0, none⟩ = some (.bool (ng m1)) ∧ w'.cell? ⟨g5, 1, none⟩ = some (.slice A1 (zl m1) c1) ∧ w'.cell? ⟨g5, 2, none⟩ = some (.int .i64 e1)) (first | (with_reducible exact ⟨Q0.out _ L.below, Q1.out _ L.below, Q2.out _ L.below, L.b0.c30, L.b0.c31, L.b0.c32⟩) | exact ⟨Q0.out _ L.below, Q1.out _ L.below, Q2.out _ L.below, L.b0.c30, L.b0.c31, L.b0.c32⟩) (first | (go_at_call 54; (with_reducible refine (C1.out _ _ _ ?_ ?_).mono ?_); (· (refine isD_n (L.getN ?_); (repeat (first | (with_reducible exact mS) | apply mT)))); (· (refine isD_n (L.getN ?_); (repeat (first | (with_reducible exact mS) | apply mT)))); rintro e wh ⟨rfl, be⟩; replace L:=L.step be; clear be))
   clear cel0 cel1 cel2 cel3 cel4 cel5
   by_cases yy : 0 < x
   ·have t1 : decide (0 < x) = true:=decide_eq_true yy
    have cel0:=Q0.out _ L.below
    have cel1:=Q1.out _ L.below
    have cel2:=Q2.out _ L.below
    obtain ⟨cel3,cel4,cel5⟩:=L.b0.a3
    obtain ⟨fr0,fr1,fr2⟩:=L.b0.f3
    have hbw:=hbV.trans (L.below.mono hbV.size)
    have P:=((Lq.mk0 V).step hbw)
    replace P:=((P.n (L.getN (v:=.slice A1 (zl m1) c1) (x:=m1.natAbs) (by simp))).n (L.getN (v:=.slice A2 (zl m2) c2) (x:=m2.natAbs) (by simp))).b L.b0
    replace P:=P.putD (by omega) (by simp) (ng m2) A2 (zl m2) c2 e2
    unfold put3 at P
    go_wp2_with fail
    go_roundw
    case rel => exact ⟨t + 1, m2, e2, A2, c2, by go_num, by omega, by omega, P.top1, Hd9 (HF.out.step HP.out (List.mem_of_getElem? HP.out) (J3.out.1 (by omega)) Rat.le_refl)⟩
    case measure => simp [intOf]; omega
   ·have t1 : decide (0 < x) = false:=decide_eq_false yy
    have cel0:=Q0.out _ L.below
    have cel1:=Q1.out _ L.below
    have cel2:=Q2.out _ L.below
    obtain ⟨cel3,cel4,cel5⟩:=L.b0.a3
    obtain ⟨fr0,fr1,fr2⟩:=L.b0.f3
    have hbw:=hbV.trans (L.below.mono hbV.size)
    have P:=((Lq.mk0 V).step hbw)
    replace P:=((P.n (L.getN (v:=.slice A2 (zl m2) c2) (x:=m2.natAbs) (by simp))).n (L.getN (v:=.slice A1 (zl m1) c1) (x:=m1.natAbs) (by simp))).b L.b0
    go_wp2_with fail
    go_roundw
    case rel => exact ⟨t + 1, m1, e1, A1, c1, by go_num, by omega, by omega, P.top1, Hd9 (HF.out.step HP.out HF.out.1 Rat.le_refl (J2.out.1 (by omega)))⟩
    case measure => simp [intOf]; omega

end Go.Proofs.YtmgbjldogggpcaaGreatDoor

