/- Joined: AtE, IvPE, AtPE, RefCoC, RefCoD, RefCoE, ExQ, RefCoB, RefCoJ, ExK, AtL, Awake16, RefCoF, RefCoK, AtI (what the law leans on). -/
import Derived.Test.YtmgbjldogggpcaaGreatDoorBaseJR
import Derived.Test.YtmgbjldogggpcaaGreatDoorBaseDR
import Derived.Test.YtmgbjldogggpcaaGreatDoorBaseER
import Derived.Test.YtmgbjldogggpcaaGreatDoorBaseMR
import Derived.Test.YtmgbjldogggpcaaGreatDoorBaseVR
import Derived.Test.YtmgbjldogggpcaaGreatDoorBaseFR
import Derived.Test.YtmgbjldogggpcaaGreatDoorRefDivModR
import Derived.Test.YtmgbjldogggpcaaGreatDoorBaseWR
import Derived.Test.YtmgbjldogggpcaaGreatDoorRefGrBR
import Derived.Test.YtmgbjldogggpcaaGreatDoorBaseXR
import Derived.Test.YtmgbjldogggpcaaGreatDoorGrPCR
import Derived.Test.YtmgbjldogggpcaaGreatDoorBaseZR
import Derived.Test.YtmgbjldogggpcaaGreatDoorBaseUR
import Derived.Test.YtmgbjldogggpcaaGreatDoorJR1
import Derived.Test.YtmgbjldogggpcaaGreatDoorJR2
import Derived.BigQuiet
import Derived.Deep.Cut
import Derived.Deep.CutRange
import Derived.Deep.DrawnRows
import Derived.Deep.QuietTactic
import Derived.Deep.RegionHeld3
namespace Go.Proofs.YtmgbjldogggpcaaGreatDoor
set_option maxHeartbeats 64000000
open Go.RowKit
set_option linter.unusedVariables false
set_option linter.unusedSimpArgs false
set_option maxRecDepth 100000
attribute [local go_sem ↓] Go.wp_at_zero Go.wp_at_succ
def RetAt (w : World) (p : Nat) (x : Rat) (en : Ending) (w' : World) : Prop:=∃ Z, AtB p Z x ∧ AbP Z (p + 20) ∧ RetD8 w (mkM Z (-(p : Int))) (mkE Z (-(p : Int))) en w'
theorem dv_neg9 {m e : Int} (h : Dv m e) : Dv (-m) e:=by
 rcases h with ⟨h1, h2⟩ | ⟨h1, h2⟩
 ·exact Or.inl ⟨by omega, h2⟩
 ·refine Or.inr ⟨by omega, ?_⟩
  unfold fits8 at *
  rwa [Int.natAbs_neg]
theorem nx_neg9 {Z x : Int} {j : Nat} (h : AbP Z j) (hj : j ≤ 3000) (hx : -6000 ≤ x ∧ x ≤ 100) : mkM (-Z) x = -(mkM Z x) ∧ mkE (-Z) x = mkE Z x:=by
 obtain ⟨a1, _, _, a4, a5⟩:=nx (x:=x) h (by omega) (by omega)
 obtain ⟨b1, _, _, b4, b5⟩:=nx (x:=x) h.neg (by omega) (by omega)
 exact dv_uniq b4 (dv_neg9 a4) (by rw [b5, dq_neg, dq_neg, a5])
theorem small_x {x : Rat} (p : Nat) (h0 : 0 ≤ x) (h1 : x ≤ 1 / 1024) : SmX (cutQ x (p : Int)) (cutQ x (p : Int) * cutQ x (p : Int) / 2 ^ p) p ∧ dq (cutQ x (p : Int)) (-(p : Int)) ≤ x ∧ x ≤ dq (cutQ x (p : Int)) (-(p : Int)) + dq 1 (-(p : Int)):=by
 have c1:=cut_lo x (p : Int)
 have c2:=cut_hi x (p : Int)
 have n:=(quo_bd (p:=p) h0 (by grind)).2.2
 refine ⟨⟨n, ?_, rfl⟩, c1, Rat.le_of_lt c2⟩
 refine (dq_le_iff _ _ (-(p : Int))).1 ?_
 have e : dq (cutQ x (p : Int) * 1024) (-(p : Int)) = dq (cutQ x (p : Int)) (-(p : Int)) * 1024:=by
  rw [dq_scale, dq_scale (cutQ x (p : Int)), Rat.intCast_mul]
  have : ((1024 : Int) : Rat) = 1024:=rfl
  rw [this]
  grind
 rw [e, dq_scale (2 ^ p), two_cast]
 grind
theorem inv_cut {x : Rat} (p : Nat) (h0 : 0 < x) (h1 : 1 ≤ x * 1024) : 0 ≤ cutQ (1 / x) (p : Int) ∧ AbP (cutQ (1 / x) (p : Int)) (p + 10) ∧ dq (cutQ (1 / x) (p : Int)) (-(p : Int)) ≤ x⁻¹ ∧ x⁻¹ ≤ dq (cutQ (1 / x) (p : Int)) (-(p : Int)) + dq 1 (-(p : Int)):=by
 have e : 1 / x = x⁻¹:=by rw [Rat.div_def, Rat.one_mul]
 have i:=Rat.inv_mul_cancel x (Rat.ne_of_gt h0)
 have i0:=Rat.inv_pos.2 h0
 have i1 : x⁻¹ ≤ 1024:=le_of_mul h0 (by rw [i]; grind)
 obtain ⟨a, _, b⟩:=quo_bd (p:=p) (Rat.le_of_lt i0) i1
 rw [e]
 exact ⟨b, a, cut_lo _ _, Rat.le_of_lt (cut_hi _ _)⟩

theorem ttan_pos (m e : Int) (p : Nat) (vx : Value) (w : World) (hx : IsD w vx m e) (hv : Dv m e) (h0 : 0 ≤ m) (lm : zl m ≤ 100) (he : -4000 ≤ e ∧ e ≤ 4000) (hp : p ≤ 700) (hT : Tab w) :
  Calls Tryz.prog 78 #[vx, .int .i64 (p : Int)] w (RetAt w p (dq m e)):=by
 obtain ⟨A, c, rfl, _, hn⟩:=hx.form
 have L0:=(Lq.mk0 w).n hn
 have HT:=Hd9 (fun W (hW : Below w.heap.size w W) => hT.mono hW)
 have gs:=fun v W h => dsign_any m e v W h (by omega)
 obtain ⟨sg, hsg⟩:=nm9 (cmpI m 0)
 have hs0 : ¬ sg < 0:=by rw [← hsg]; unfold cmpI; (repeat' split) <;> omega
 rw [hsg] at gs
 have hpm : permB 10 = true:=by decide
 obtain ⟨y1, y2, y3⟩:=g_yes hpm 1
 have g1:=fun W (hW : Below w.heap.size w W) => gunit_any 10 W (by omega) (by omega) (hT.mono hW)
 rw [y1, y2, y3] at g1
 have l1 : AbP 1 0:=by unfold AbP; decide
 obtain ⟨u1, u2, u3, u4, u5⟩:=nx (x := -10) l1 (by omega) (by omega)
 rw [u1] at g1
 have g2:=fun v u W h k => dcmp_any m e (mkM 1 (-10)) (mkE 1 (-10)) v u W h k (by omega) (by omega) (by omega) (by omega)
 have hc:=dcm_le m e (mkM 1 (-10)) (mkE 1 (-10))
 rw [u5, show dq 1 (-10) = 1 / 1024 by decide +kernel] at hc
 obtain ⟨sc, hsc⟩:=nm9 (dcm m e (mkM 1 (-10)) (mkE 1 (-10)))
 rw [show cmpI (m * 2 ^ (e - min e (mkE 1 (-10))).toNat) (mkM 1 (-10) * 2 ^ (mkE 1 (-10) - min e (mkE 1 (-10))).toNat) = dcm m e (mkM 1 (-10)) (mkE 1 (-10)) from rfl, hsc] at g2
 rw [hsc] at hc
 have hq0 : 0 ≤ dq m e:=by have:=(dq_le_iff 0 m e).2 h0; rwa [dq_zero] at this
 obtain ⟨ML, hML⟩:=nm9 (mkM 1 (-10))
 obtain ⟨EL, hEL⟩:=nm9 (mkE 1 (-10))
 rw [hML, hEL] at g1 g2
 have GS:=Hd9 gs
 have G1:=Hd9 g1
 have G2:=Hd9 g2
 clear gs g1 g2 hsg y1 y2 y3 hpm l1 u1 u2 u3 u4 u5 hML hEL hsc hT hx hn
 by_cases hc0 : sc ≤ 0
 ·have hle:=hc.1 hc0
  have d1 : decide (sc ≤ 0) = true:=decide_eq_true hc0
  obtain ⟨hX, x1, x2⟩:=small_x p hq0 hle
  obtain ⟨X, hXe⟩:=nm9 (cutQ (dq m e) (p : Int))
  rw [hXe] at hX x1 x2
  have aX:=unit_ab hX.nn hX.lt
  obtain ⟨n1, n2, n3, n4, n5⟩:=nx (x := -(p : Int)) aX (by omega) (by omega)
  obtain ⟨y1, y2, y3⟩:=g_yes (permN (p:=p) (by omega)) X
  have g3:=fun x W h (hW : Below w.heap.size w W) => gfloor_any m e (p : Int) x W h (by omega) (by omega) (by omega) (by omega) (HT.out W hW)
  rw [hXe, y1, y2, y3, n1] at g3
  have g4:=fun x W h (hW : Below w.heap.size w W) => tser_any X (X * X / 2 ^ p) p x W h hX (by omega) (HT.out W hW)
  have HE:=Hd9 (fun n (hn : pwA (X * X / 2 ^ p) X p n = 0) (h6 : n ≤ 60) => And.intro (small_at hX hn (by omega) hq0 hle x1 x2) ((sm_ab hX (n:=n) (by omega)).up (show p ≤ p + 20 by omega)))
  obtain ⟨XM, hXM⟩:=nm9 (mkM X (-(p : Int)))
  obtain ⟨XE, hXE⟩:=nm9 (mkE X (-(p : Int)))
  rw [hXM, hXE] at g3 g4
  have G3:=Hd9 g3
  have G4:=Hd9 g4
  clear g3 g4 hXM hXE n1 n2 n3 n4 n5 y1 y2 y3 aX hX x1 x2 hXe hle hc hq0 lm he hp hv h0
  go_enter Tryz.func78, Tryz.ntmps78
  have L:=((L0.varD (w.heap.size) (by simp) (ng m) A (zl m) c e).varD (w.heap.size + 1) (by simp) false none 0 0 0)
  obtain ⟨c10,c11,c12⟩:=L.tl.b0.a3
  (try go_wp2_with fail)
  refine (GS.out _ _ (isD_n (m:=m) (e:=e) (s:=.slice A (zl m) c) (L.getN (by simp)))).mono ?_
  rintro e w1 ⟨rfl, be⟩
  clear c10 c11 c12
  replace L:=L.step be
  clear be
  (try go_wp2_with fail)
  refine (G1.out _ L.below).mono ?_
  rintro e w2 ⟨v9, rfl, iz, be⟩
  obtain ⟨A1, c1, rfl, _, in9⟩:=iz.form
  replace L:=(L.step be).n in9
  clear be iz in9
  have hl9:=L.b0.lt
  replace L:=L.varD w2.heap.size rfl (ng ML) A1 (zl ML) c1 EL
  obtain ⟨c00,c01,c02⟩:=L.b0.a3
  obtain ⟨c20,c21,c22⟩:=L.tl.tl.b0.a3
  (try go_wp2_with fail)
  clear c00 c01 c02 c20 c21 c22
  obtain ⟨gl, hgl⟩:=nm9 (w2.heap.size)
  rw [hgl] at L hl9 ⊢
  clear hgl
  have hl_gl:=hl9
  clear hl9
  refine (G2.out _ _ _ (isD_n (m:=m) (e:=e) (s:=.slice A (zl m) c) (L.getN (by simp))) (isD_n (m:=ML) (e:=EL) (s:=.slice A1 (zl ML) c1) (L.getN (by simp)))).mono ?_
  rintro e w3 ⟨rfl, be⟩
  replace L:=L.step be
  clear be
  obtain ⟨c20,c21,c22⟩:=L.tl.tl.b0.a3
  (try go_wp2_with fail)
  refine (G3.out _ _ (isD_n (m:=m) (e:=e) (s:=.slice A (zl m) c) (L.getN (by simp))) L.below).mono ?_
  rintro e w4 ⟨v9, rfl, iz, be⟩
  clear c20 c21 c22
  obtain ⟨A2, c2, rfl, _, in9⟩:=iz.form
  replace L:=(L.step be).n in9
  clear be iz in9
  have hl9:=L.b0.lt
  replace L:=L.varD w4.heap.size rfl (ng XM) A2 (zl XM) c2 XE
  obtain ⟨c00,c01,c02⟩:=L.b0.a3
  (try go_wp2_with fail)
  clear c00 c01 c02
  obtain ⟨gx, hgx⟩:=nm9 (w4.heap.size)
  rw [hgx] at L hl9 ⊢
  clear hgx
  have hl_gx:=hl9
  clear hl9
  refine (G4.out _ _ (isD_n (m:=XM) (e:=XE) (s:=.slice A2 (zl XM) c2) (L.getN (by simp))) L.below).mono ?_
  rintro e w5 ⟨n, hn6, hn0, v9, rfl, iz, be⟩
  obtain ⟨A5, c5, rfl, _, in9⟩:=iz.form
  replace L:=(L.step be).n in9
  clear be iz in9
  obtain ⟨hr1, hr2⟩:=HE.out n hn0 hn6
  generalize smA (X * X / 2 ^ p) X p n = Z at *
  have L9:=L.subx (ns':=[(.slice A5 (zl (mkM Z (-(p : Int)))) c5, (mkM Z (-(p : Int))).natAbs)]) (bs':=[(w.heap.size + 1, 26, #[.bool false, .slice none 0 0, .int .i64 0])]) (by simp) (by simp)
  clear L
  have L:=L9
  clear L9
  obtain ⟨c00,c01,c02⟩:=L.b0.a3
  obtain ⟨f00,f01,f02⟩:=L.b0.f3
  (try go_wp2_with fail)
  clear c00 f00 c01 f01 c02 f02
  have LP:=L.putD (by omega) (by first | (simp; done) | (simp; omega)) (ng (mkM Z (-(p : Int)))) A5 (zl (mkM Z (-(p : Int)))) c5 (mkE Z (-(p : Int)))
  obtain ⟨k0,k1,k2⟩:=LP.b0.a3
  unfold put3 at k0 k1 k2
  exact bodyPost_ret (v:=.agg #[.bool (ng (mkM Z (-(p : Int)))), .slice A5 (zl (mkM Z (-(p : Int)))) c5, .int .i64 (mkE Z (-(p : Int)))]) (by simp [results, Tryz.results78, go_sem, k0, k1, k2]) rfl ⟨Z, hr1, hr2, _, rfl, isD_n (LP.getN (by simp)), LP.below⟩
 ·have hgt : 1 / 1024 < dq m e:=by
   refine Rat.not_le.1 fun h => hc0 (hc.2 h)
  have d1 : decide (sc ≤ 0) = false:=decide_eq_false hc0
  have h1024 : 1 ≤ dq m e * 1024:=by grind
  have hpos : 0 < dq m e:=by grind
  obtain ⟨i0, i1, i2, i3⟩:=inv_cut p hpos h1024
  obtain ⟨C, hCe⟩:=nm9 (cutQ (1 / dq m e) (p : Int))
  rw [hCe] at i0 i1 i2 i3
  have l1 : AbP 1 0:=by unfold AbP; decide
  obtain ⟨u1, u2, u3, u4, u5⟩:=nx (x:=0) l1 (by omega) (by omega)
  have one : dq 1 0 = 1:=by decide +kernel
  have g3:=fun W (hW : Below w.heap.size w W) => dof_any 1 W (by omega) (by omega) (HT.out W hW)
  have g4:=fun x y W h i (hW : Below w.heap.size w W) => tquot_any (mkM 1 0) (mkE 1 0) m e C p x y W h i u4 hv (by omega) (by omega) (by omega) (by omega) (by rw [u5, one]; decide) (by rw [u5, one]; exact Rat.le_refl) h1024 (by rw [u5, one]; exact hCe) (by omega) (HT.out W hW)
  have g5:=fun x W h (hW : Below w.heap.size w W) => tangle_any C p x W h i0 (i1.up (by omega)) (by omega) (HT.out W hW)
  have HE:=Hd9 (fun Z (h : AgI p C Z) => h.at hpos i2 i3)
  obtain ⟨XM, hXM⟩:=nm9 (mkM C (-(p : Int)))
  obtain ⟨XE, hXE⟩:=nm9 (mkE C (-(p : Int)))
  rw [hXM, hXE] at g4 g5
  obtain ⟨M1, hM1⟩:=nm9 (mkM 1 0)
  obtain ⟨E1, hE1⟩:=nm9 (mkE 1 0)
  rw [hM1, hE1] at g3 g4
  have G3:=Hd9 g3
  have G4:=Hd9 g4
  have G5:=Hd9 g5
  clear g3 g4 g5 hXM hXE hM1 hE1 l1 u1 u2 u3 u4 u5 one i0 i1 i2 i3 hCe h1024 hpos hgt hc hq0 lm he hp hv h0
  go_enter Tryz.func78, Tryz.ntmps78
  have L:=((L0.varD (w.heap.size) (by simp) (ng m) A (zl m) c e).varD (w.heap.size + 1) (by simp) false none 0 0 0)
  obtain ⟨c10,c11,c12⟩:=L.tl.b0.a3
  (try go_wp2_with fail)
  refine (GS.out _ _ (isD_n (m:=m) (e:=e) (s:=.slice A (zl m) c) (L.getN (by simp)))).mono ?_
  rintro e w1 ⟨rfl, be⟩
  clear c10 c11 c12
  replace L:=L.step be
  clear be
  (try go_wp2_with fail)
  refine (G1.out _ L.below).mono ?_
  rintro e w2 ⟨v9, rfl, iz, be⟩
  obtain ⟨A1, c1, rfl, _, in9⟩:=iz.form
  replace L:=(L.step be).n in9
  clear be iz in9
  have hl9:=L.b0.lt
  replace L:=L.varD w2.heap.size rfl (ng ML) A1 (zl ML) c1 EL
  obtain ⟨c00,c01,c02⟩:=L.b0.a3
  obtain ⟨c20,c21,c22⟩:=L.tl.tl.b0.a3
  (try go_wp2_with fail)
  clear c00 c01 c02 c20 c21 c22
  obtain ⟨gl, hgl⟩:=nm9 (w2.heap.size)
  rw [hgl] at L hl9 ⊢
  clear hgl
  have hl_gl:=hl9
  clear hl9
  refine (G2.out _ _ _ (isD_n (m:=m) (e:=e) (s:=.slice A (zl m) c) (L.getN (by simp))) (isD_n (m:=ML) (e:=EL) (s:=.slice A1 (zl ML) c1) (L.getN (by simp)))).mono ?_
  rintro e w3 ⟨rfl, be⟩
  replace L:=L.step be
  clear be
  have L9:=L.subx (ns':=[(.slice A (zl m) c, m.natAbs)]) (bs':=[(w.heap.size + 1, 26, #[.bool false, .slice none 0 0, .int .i64 0]), (w.heap.size, 26, #[.bool (ng m), .slice A (zl m) c, .int .i64 e])]) (by simp) (by simp)
  clear L
  have L:=L9
  clear L9
  replace L:=L.drew
  (try go_wp2_with fail)
  have LD:=L
  clear L
  obtain ⟨c00,c01,c02⟩:=LD.b0.a3
  obtain ⟨f00,f01,f02⟩:=LD.b0.f3
  obtain ⟨c10,c11,c12⟩:=LD.tl.b0.a3
  go_cut [] from 34 to 39 (fun wx => ∃ Z A8 c8, (AgI p C Z ∧ AbP Z (p + 20)) ∧ Lq w wx [(.slice A8 (zl (mkM Z (-(p : Int)))) c8, (mkM Z (-(p : Int))).natAbs)] [] [] [(w.heap.size + 1, 26, #[.bool (ng (mkM Z (-(p : Int)))), .slice A8 (zl (mkM Z (-(p : Int)))) c8, .int .i64 (mkE Z (-(p : Int)))])])
  case first =>
   go_region_with (first | (go_at_call 92; (with_reducible refine (G3.out _ LD.below).mono ?_); rintro e9 wh ⟨vh, rfl, id, be⟩; obtain ⟨A7, c7, rfl, _, in9⟩:=id.form; replace LD:=(LD.step be).n in9; clear be id in9; (try (have r0:=LD.b0.c30; have t0:=LD.b0.fr 0; have s0:=LD.tl.b0.c30; have r1:=LD.b0.c31; have t1:=LD.b0.fr 1; have s1:=LD.tl.b0.c31; have r2:=LD.b0.c32; have t2:=LD.b0.fr 2; have s2:=LD.tl.b0.c32))) | (go_at_call 146; (with_reducible refine (G4.out _ _ _ ?_ ?_ LD.below).mono ?_); (· (refine isD_n (LD.getN ?_) <;> (repeat (first | (with_reducible exact mS) | apply mT)))); (· (refine isD_n (LD.getN ?_) <;> (repeat (first | (with_reducible exact mS) | apply mT)))); rintro e9 wh ⟨vh, rfl, id, be⟩; obtain ⟨A9, c9, rfl, _, in9⟩:=id.form; replace LD:=(LD.step be).n in9; clear be id in9; (try (have r0:=LD.b0.c30; have t0:=LD.b0.fr 0; have s0:=LD.tl.b0.c30; have r1:=LD.b0.c31; have t1:=LD.b0.fr 1; have s1:=LD.tl.b0.c31; have r2:=LD.b0.c32; have t2:=LD.b0.fr 2; have s2:=LD.tl.b0.c32))) | (go_at_call 91; (with_reducible refine (G5.out _ _ ?_ LD.below).mono ?_); (· (refine isD_n (LD.getN ?_) <;> (repeat (first | (with_reducible exact mS) | apply mT)))); rintro e9 wh ⟨Z, hz1, hz2, vh, rfl, id, be⟩; obtain ⟨A8, c8, rfl, _, in9⟩:=id.form; replace LD:=(LD.step be).n in9; clear be id in9; (try (have r0:=LD.b0.c30; have t0:=LD.b0.fr 0; have s0:=LD.tl.b0.c30; have r1:=LD.b0.c31; have t1:=LD.b0.fr 1; have s1:=LD.tl.b0.c31; have r2:=LD.b0.c32; have t2:=LD.b0.fr 2; have s2:=LD.tl.b0.c32))))
   all_goals
    have LP:=LD.putD (by omega) (by first | (simp; done) | (simp; omega)) (ng (mkM Z (-(p : Int)))) A8 (zl (mkM Z (-(p : Int)))) c8 (mkE Z (-(p : Int)))
    unfold put3 at LP
    go_wp2_with fail
    go_meet
    exact ⟨Z, A8, c8, ⟨hz1, hz2⟩, LP.subx (by simp) (by simp)⟩
  case rest =>
   obtain ⟨Z, A8, c8, ⟨hz1, hz2⟩, L⟩:=hcut
   generalize wc = wd0 at *
   clear LD
   obtain ⟨k0,k1,k2⟩:=L.b0.a3
   (try go_wp2_with fail)
   exact bodyPost_ret (v:=.agg #[.bool (ng (mkM Z (-(p : Int)))), .slice A8 (zl (mkM Z (-(p : Int)))) c8, .int .i64 (mkE Z (-(p : Int)))]) (by simp [results, Tryz.results78, go_sem, k0, k1, k2]) rfl ⟨Z, HE.out Z hz1, hz2, _, rfl, isD_n (L.getN (by simp)), L.below⟩
theorem ttan_any (m e : Int) (p : Nat) (vx : Value) (w : World) (hx : IsD w vx m e) (hv : Dv m e) (lm : zl m ≤ 100) (he : -4000 ≤ e ∧ e ≤ 4000) (hp : p ≤ 700) (hT : Tab w) :
  Calls Tryz.prog 78 #[vx, .int .i64 (p : Int)] w (RetAt w p (dq m e)):=by
 by_cases h0 : 0 ≤ m
 ·exact ttan_pos m e p vx w hx hv h0 lm he hp hT
 obtain ⟨A, c, rfl, _, hn⟩:=hx.form
 have L0:=(Lq.mk0 w).n hn
 have zn:=zl_neg m
 have gs:=fun v W h => dsign_any m e v W h (by omega)
 obtain ⟨sg, hsg⟩:=nm9 (cmpI m 0)
 have hs0 : sg < 0:=by rw [← hsg, cmpI_lt (by omega)]; decide
 rw [hsg] at gs
 have g1:=fun v W h => dneg_any m e v W h (by omega)
 have g2:=fun x W h (hW : Below w.heap.size w W) => ttan_pos (-m) e p x W h (dv_neg9 hv) (by omega) (by omega) he hp (hT.mono hW)
 rw [dq_neg] at g2
 have HQ:=Hd9 hp
 have GS:=Hd9 gs
 have G1:=Hd9 g1
 have G2:=Hd9 g2
 have d1 : decide (sg < 0) = true:=decide_eq_true hs0
 obtain ⟨mn, hmn⟩:=nm9 (-m)
 rw [hmn] at G1 G2
 clear gs g1 g2 hsg hT hx hn hv lm he hp zn h0 hmn
 go_enter Tryz.func78, Tryz.ntmps78
 have L:=((L0.varD (w.heap.size) (by simp) (ng m) A (zl m) c e).varD (w.heap.size + 1) (by simp) false none 0 0 0)
 obtain ⟨c10,c11,c12⟩:=L.tl.b0.a3
 (try go_wp2_with fail)
 refine (GS.out _ _ (isD_n (m:=m) (e:=e) (s:=.slice A (zl m) c) (L.getN (by simp)))).mono ?_
 rintro e w1 ⟨rfl, be⟩
 clear c10 c11 c12
 replace L:=L.step be
 clear be
 obtain ⟨c10,c11,c12⟩:=L.tl.b0.a3
 (try go_wp2_with fail)
 refine (G1.out _ _ (isD_n (m:=m) (e:=e) (s:=.slice A (zl m) c) (L.getN (by simp)))).mono ?_
 rintro e w2 ⟨v9, rfl, iz, be⟩
 clear c10 c11 c12
 obtain ⟨A1, c1, rfl, _, in9⟩:=iz.form
 replace L:=(L.step be).n in9
 clear be iz in9
 (try go_wp2_with fail)
 refine (G2.out _ _ (isD_n (m:=mn) (e:=e) (s:=.slice A1 (zl mn) c1) (L.getN (by simp))) L.below).mono ?_
 rintro e w3 ⟨Z, hz1, hz2, v9, rfl, iz, be⟩
 obtain ⟨A5, c5, rfl, _, in9⟩:=iz.form
 replace L:=(L.step be).n in9
 clear be iz in9
 have hp:=HQ.out
 obtain ⟨t1, t2, t3, t4, t5⟩:=nx (x := -(p : Int)) hz2 (by omega) (by omega)
 obtain ⟨v1, v2⟩:=nx_neg9 (x := -(p : Int)) hz2 (by omega) (by omega)
 have g3:=fun v W h => dneg_any (mkM Z (-(p : Int))) (mkE Z (-(p : Int))) v W h (by omega)
 rw [← v1, ← v2] at g3
 have hr1:=hz1.neg
 rw [Rat.neg_neg] at hr1
 have HR:=Hd9 (And.intro hr1 hz2.neg)
 clear t1 t2 t3 t4 t5 hr1 hz1 hz2
 rw [← v2]
 rw [v2] at g3 ⊢
 clear v1
 obtain ⟨MZ, hMZ⟩:=nm9 (mkM Z (-(p : Int)))
 rw [hMZ] at g3 L ⊢
 obtain ⟨EZ, hEZ⟩:=nm9 (mkE Z (-(p : Int)))
 rw [hEZ] at g3 v2 ⊢
 have HV:=Hd9 v2
 clear v2 hMZ hEZ
 have G3:=Hd9 g3
 clear g3
 (try go_wp2_with fail)
 refine (G3.out _ _ (isD_n (m:=MZ) (e:=EZ) (s:=.slice A5 (zl MZ) c5) (L.getN (by simp)))).mono ?_
 rintro e w4 ⟨v9, rfl, iz, be⟩
 obtain ⟨A6, c6, rfl, _, in9⟩:=iz.form
 replace L:=(L.step be).n in9
 clear be iz in9
 have L9:=L.subx (ns':=[(.slice A6 (zl (mkM (-Z) (-(p : Int)))) c6, (mkM (-Z) (-(p : Int))).natAbs)]) (bs':=[(w.heap.size + 1, 26, #[.bool false, .slice none 0 0, .int .i64 0])]) (by simp) (by simp)
 clear L
 have L:=L9
 clear L9
 obtain ⟨c00,c01,c02⟩:=L.b0.a3
 obtain ⟨f00,f01,f02⟩:=L.b0.f3
 (try go_wp2_with fail)
 clear c00 f00 c01 f01 c02 f02
 obtain ⟨hr1, hr2⟩:=HR.out
 have v2:=HV.out
 have LP:=L.putD (by omega) (by first | (simp; done) | (simp; omega)) (ng (mkM (-Z) (-(p : Int)))) A6 (zl (mkM (-Z) (-(p : Int)))) c6 (EZ)
 obtain ⟨k0,k1,k2⟩:=LP.b0.a3
 unfold put3 at k0 k1 k2
 exact bodyPost_ret (v:=.agg #[.bool (ng (mkM (-Z) (-(p : Int)))), .slice A6 (zl (mkM (-Z) (-(p : Int)))) c6, .int .i64 (EZ)]) (by simp [results, Tryz.results78, go_sem, k0, k1, k2]) rfl ⟨-Z, hr1, hr2, _, rfl, by rw [v2]; exact isD_n (LP.getN (by simp)), LP.below⟩

theorem i10out_yes (m e n f p : Int) (vx : Value) (w : World) (hx : IsI w vx m e n f) (lm : zl m ≤ 1000) (ln : zl n ≤ 1000) (he : -20000 ≤ e ∧ e ≤ 20000) (hf : -20000 ≤ f ∧ f ≤ 20000) (hp1 : -9223372036854775808 ≤ p) (hp2 : p ≤ 9223372036854775807) (hp : permB p = true) (r1 : mkR (cutQ (dq m e) p) (-p) = 0) (r2 : mkR (-(cutQ (-(dq n f)) p)) (-p) = 0) (hT : Tab w) :
  Calls Tryz.prog 58 #[vx, .int .i64 p] w (RetIE w (mkM (cutQ (dq m e) p) (-p)) (mkE (cutQ (dq m e) p) (-p)) (mkM (-(cutQ (-(dq n f)) p)) (-p)) (mkE (-(cutQ (-(dq n f)) p)) (-p)) 0):=by
 obtain ⟨A, c, B, d, rfl, hn1, hn2⟩:=hx.form
 have L0:=((Lq.mk0 w).n hn2).n hn1
 have h1:=fun v W h (hW : Below w.heap.size w W) => gfloor_any m e p v W h (by omega) (by omega) hp1 hp2 (hT.mono hW)
 have h2:=fun v W h (hW : Below w.heap.size w W) => gceil_any n f p v W h (by omega) (by omega) hp1 hp2 (hT.mono hW)
 rw [(g_yes hp (cutQ (dq m e) p)).1, (g_yes hp (cutQ (dq m e) p)).2.1, (g_yes hp (cutQ (dq m e) p)).2.2] at h1
 rw [(g_yes hp (-(cutQ (-(dq n f)) p))).1, (g_yes hp (-(cutQ (-(dq n f)) p))).2.1, (g_yes hp (-(cutQ (-(dq n f)) p))).2.2] at h2
 rw [r1] at h1
 rw [r2] at h2
 generalize mkM (cutQ (dq m e) p) (-p) = M at *
 generalize mkE (cutQ (dq m e) p) (-p) = E at *
 generalize mkM (-(cutQ (-(dq n f)) p)) (-p) = N at *
 generalize mkE (-(cutQ (-(dq n f)) p)) (-p) = G at *
 have H1:=Hd9 h1
 have H2:=Hd9 h2
 clear h1 h2 hx hn1 hn2 lm ln he hf hp1 hp2 hp hT r1 r2
 go_enter Tryz.func58, Tryz.ntmps58
 go_wp2_with fail
 have L:=((L0.varI (w.heap.size) (by simp) (ng m) A (zl m) c e (ng n) B (zl n) d f).varI (w.heap.size + 1) (by simp) false none 0 0 0 false none 0 0 0)
 obtain ⟨c00,c01,c02,c03,c04,c05⟩:=L.b0.a6
 obtain ⟨f00,f01,f02,f03,f04,f05⟩:=L.b0.f6
 obtain ⟨c10,c11,c12,c13,c14,c15⟩:=L.tl.b0.a6
 (try go_wp2_with fail)
 refine (H1.out _ _ (isD_n (m:=m) (e:=e) (s:=.slice A (zl m) c) (L.getN (v:=.slice A (zl m) c) (x:=(m).natAbs) (by simp))) L.below).mono ?_
 rintro e w1 ⟨vv, rfl, id, be⟩
 clear c00 f00 c01 f01 c02 f02 c03 f03 c04 f04 c05 f05 c10 c11 c12 c13 c14 c15
 obtain ⟨A8, c8, rfl, _, in9⟩:=id.form
 replace L:=(L.step be).n in9
 clear be id in9
 have hlg:=L.b0.lt
 replace L:=L.varD w1.heap.size rfl (ng M) A8 (zl M) c8 E
 obtain ⟨c00,c01,c02⟩:=L.b0.a3
 obtain ⟨c20,c21,c22,c23,c24,c25⟩:=L.tl.tl.b0.a6
 go_wp2_with fail
 obtain ⟨g, hg⟩:=nm9 (w1.heap.size)
 rw [hg] at L hlg c00 c01 c02 ⊢
 clear hg
 refine (H2.out _ _ (isD_n (m:=n) (e:=f) (s:=.slice B (zl n) d) (L.getN (v:=.slice B (zl n) d) (x:=(n).natAbs) (by simp))) L.below).mono ?_
 rintro e w2 ⟨vv, rfl, id, be⟩
 clear c00 c01 c02 c20 c21 c22 c23 c24 c25
 obtain ⟨A9, c9, rfl, _, in9⟩:=id.form
 replace L:=(L.step be).n in9
 clear be id in9
 have hlk9:=L.b0.lt
 replace L:=L.varD w2.heap.size rfl (ng N) A9 (zl N) c9 G
 have n1 : w.heap.size + 1 ≠ g:=by omega
 have n2 : w.heap.size + 1 ≠ w2.heap.size:=by omega
 replace L:=L.pull2
 obtain ⟨c00,c01,c02,c03,c04,c05⟩:=L.b0.a6
 obtain ⟨f00,f01,f02,f03,f04,f05⟩:=L.b0.f6
 obtain ⟨c10,c11,c12⟩:=L.tl.b0.a3
 obtain ⟨c20,c21,c22⟩:=L.tl.tl.b0.a3
 go_wp2_with fail
 have LP:=L.putI (by omega) (by simp [n1, n2, Ne.symm n1, Ne.symm n2]) (ng M) A8 (zl M) c8 E (ng N) A9 (zl N) c9 G
 obtain ⟨k0,k1,k2,k3,k4,k5⟩:=LP.b0.a6
 unfold put6 at k0 k1 k2 k3 k4 k5
 exact bodyPost_ret (v:=.tuple #[.agg #[.bool (ng M), .slice A8 (zl M) c8, .int .i64 E, .bool (ng N), .slice A9 (zl N) c9, .int .i64 G], .int .i64 0]) (by simp [results, Tryz.results58, go_sem, k0, k1, k2, k3, k4, k5]) rfl ⟨_, rfl, isI_n (LP.getN (by simp)) (LP.getN (by simp)), LP.below⟩

theorem atLo_cut {S : Int} {k p : Nat} (hp : p = k + 32) : cutQ (dq (S - 2097152) (-(p : Int))) (k : Int) = atLo S:=cutD_down 32 (by omega)
theorem atHi_cut {S : Int} {k p : Nat} (hp : p = k + 32) : -(cutQ (-(dq (S + 2097152) (-(p : Int)))) (k : Int)) = atHi S:=by
 rw [← dq_neg, cutD_down 32 (by omega)]
 rfl
theorem at_margin {p q : Nat} (h : q + 21 = p) (hp : p ≤ 3000) : mkM 1 (-(q : Int)) = mkM 2097152 (-(p : Int)) ∧ mkE 1 (-(q : Int)) = mkE 2097152 (-(p : Int)) ∧ mkR 1 (-(q : Int)) = 0:=by
 obtain ⟨a1, _⟩:=nx (T:=1) (x := -(q : Int)) (j:=0) (by unfold AbP; decide) (by omega) (by omega)
 obtain ⟨b1, _⟩:=nx (T:=2097152) (x := -(p : Int)) (j:=21) (by unfold AbP; decide) (by omega) (by omega)
 have:=mk_uniq a1 b1 (by
  refine dq_eq (F := -(p : Int)) ?_ (by omega) (by omega)
  rw [show (-(q : Int) - -(p : Int)).toNat = 21 by omega, show (-(p : Int) - -(p : Int)).toNat = 0 by omega]
  decide)
 exact ⟨this.1, this.2, a1⟩
theorem at_size {Z : Int} {k p : Nat} (hp : p = k + 32) (h : AbP Z (p + 20)) : AbP (atLo Z) (k + 21) ∧ AbP (atHi Z) (k + 21):=by
 have e1 : (2 : Nat) ^ (p + 20) = 2 ^ k * 4503599627370496:=by rw [hp, show k + 32 + 20 = k + 52 by omega, Nat.pow_add]
 have e2 : (2 : Nat) ^ (k + 21) = 2 ^ k * 2097152:=by rw [Nat.pow_add]
 have pp : 0 < (2 : Nat) ^ k:=Nat.pow_pos (by omega)
 have e3 : (2 : Int) ^ 32 = 4294967296:=rfl
 unfold AbP atLo atHi at *
 rw [e1] at h
 rw [e2, e3]
 generalize (2 : Nat) ^ k = P at *
 constructor <;> omega
theorem at_tight (Z : Int) : atLo Z ≤ atHi Z ∧ atHi Z ≤ atLo Z + 2:=by
 have e3 : (2 : Int) ^ 32 = 4294967296:=rfl
 unfold atLo atHi
 rw [e3]
 constructor <;> omega
theorem okA_yes {k : Nat} (h : k ≤ 4096) : okA (k : Int) = true:=by
 unfold okA
 rw [decide_eq_true (show (0 : Int) ≤ (k : Int) by omega), decide_eq_true (show (k : Int) ≤ 4096 by omega)]
 rfl
theorem nx_int (n : Int) (p : Nat) (hn : AbP n 20) (hp : p ≤ 2000) : mkM n 0 = mkM (n * 2 ^ p) (-(p : Int)) ∧ mkE n 0 = mkE (n * 2 ^ p) (-(p : Int)) ∧ AbP (n * 2 ^ p) (p + 30) ∧ dq (n * 2 ^ p) (-(p : Int)) = (n : Rat):=by
 have ha : AbP (n * 2 ^ p) (20 + p):=AbP.mul hn (by unfold AbP; rw [Int.natAbs_pow]; exact Nat.le_refl _)
 obtain ⟨a1, _⟩:=nx (T:=n) (x:=0) hn (by omega) (by omega)
 obtain ⟨b1, _⟩:=nx (T:=n * 2 ^ p) (x := -(p : Int)) ha (by omega) (by omega)
 have e : dq (n * 2 ^ p) (-(p : Int)) = (n : Rat):=by
  rw [dq_scale, Rat.intCast_mul, Rat.mul_assoc, two_cast, Rat.mul_one]
 have:=mk_uniq a1 b1 (by rw [e, dq_int])
 exact ⟨this.1, this.2, ha.up (by omega), e⟩
def RetTn (w : World) (k : Nat) (m e n f : Int) (en : Ending) (w' : World) : Prop:=∃ a b : Int, (EaA k a (dq m e) ∧ EaB k b (dq n f) ∧ AbP a (k + 21) ∧ AbP b (k + 21)) ∧ RetIE w (mkM a (-(k : Int))) (mkE a (-(k : Int))) (mkM b (-(k : Int))) (mkE b (-(k : Int))) 0 en w'
def RetRc (w : World) (k : Nat) (x : Rat) (en : Ending) (w' : World) : Prop:=∃ a b : Int, (EaA k a x ∧ EaB k b x ∧ AbP a (k + 21) ∧ AbP b (k + 21) ∧ a ≤ b ∧ b ≤ a + 2) ∧ RetIE w (mkM a (-(k : Int))) (mkE a (-(k : Int))) (mkM b (-(k : Int))) (mkE b (-(k : Int))) 0 en w'

theorem taround_any (Z1 Z2 : Int) (k p : Nat) (vx vy : Value) (w : World) (hx : IsD w vx (mkM Z1 (-(p : Int))) (mkE Z1 (-(p : Int)))) (hy : IsD w vy (mkM Z2 (-(p : Int))) (mkE Z2 (-(p : Int)))) (h1 : AbP Z1 (p + 20)) (h2 : AbP Z2 (p + 20)) (hp : p = k + 32) (hk : k ≤ 600) (hT : Tab w) :
  Calls Tryz.prog 79 #[vx, vy, .int .i64 (k : Int)] w (RetIE w (mkM (atLo Z1) (-(k : Int))) (mkE (atLo Z1) (-(k : Int))) (mkM (atHi Z2) (-(k : Int))) (mkE (atHi Z2) (-(k : Int))) 0):=by
 obtain ⟨A, c, rfl, _, hn⟩:=hx.form
 obtain ⟨B, d, rfl, _, hn2⟩:=hy.form
 have L0:=((Lq.mk0 w).n hn2).n hn
 obtain ⟨q, hq⟩:=nm9 (k + 11)
 obtain ⟨u1, u2, u3⟩:=at_margin (p:=p) (q:=q) (by omega) (by omega)
 obtain ⟨y1, y2, y3⟩:=g_yes (permN (p:=q) (by omega)) 1
 have g8:=fun W (hW : Below w.heap.size w W) => gunit_any (q : Int) W (by omega) (by omega) (hT.mono hW)
 rw [y1, y2, y3, u1, u2, u3] at g8
 have w1 : IntKind.i64.wrap ((k : Int) + 32) = (p : Int):=by rw [IntKind.wrap_i64]; omega
 have w2 : IntKind.i64.wrap ((p : Int) - 21) = (q : Int):=by rw [IntKind.wrap_i64]; omega
 have a15 : AbP 2097152 (p + 20):=AbP.up (j:=21) (by unfold AbP; decide) (by omega)
 have hpy : -6000 ≤ -(p : Int) ∧ -(p : Int) ≤ 100:=by omega
 have hpc : -4500 ≤ -(p : Int) ∧ -(p : Int) ≤ 0:=by omega
 obtain ⟨r1, r2, r3, _, _⟩:=nxc 10000 h1 (by omega) hpc (by omega) (by omega)
 obtain ⟨s1, s2, s3, _, _⟩:=nxc 10000 h2 (by omega) hpc (by omega) (by omega)
 obtain ⟨t1, t2, t3, _, _⟩:=nxc 10000 a15 (by omega) hpc (by omega) (by omega)
 obtain ⟨b1, b2, b3⟩:=nx_sub h1 a15 (by omega) hpy
 have g9:=fun x y W h i (hW : Below w.heap.size w W) => dsub_any (mkM Z1 (-(p : Int))) (mkE Z1 (-(p : Int))) (mkM 2097152 (-(p : Int))) (mkE 2097152 (-(p : Int))) x y W h i (by omega) (by omega) (by omega) (by omega) (hT.mono hW)
 rw [b1, b2, b3] at g9
 have al : AbP (Z1 - 2097152) (p + 21):=by rw [Int.sub_eq_add_neg]; exact h1.add a15.neg
 obtain ⟨l1, l2, l3, l4, l5⟩:=nxc 10000 al (by omega) hpc (by omega) (by omega)
 obtain ⟨c1', c2', c3'⟩:=nx_add h2 a15 (by omega) hpy
 have g10:=fun x y W h i (hW : Below w.heap.size w W) => dadd_any (mkM Z2 (-(p : Int))) (mkE Z2 (-(p : Int))) (mkM 2097152 (-(p : Int))) (mkE 2097152 (-(p : Int))) x y W h i (by omega) (by omega) (by omega) (by omega) (hT.mono hW)
 rw [c1', c2', c3'] at g10
 have ah : AbP (Z2 + 2097152) (p + 21):=h2.add a15
 obtain ⟨k1, k2, k3, k4, k5⟩:=nxc 10000 ah (by omega) hpc (by omega) (by omega)
 obtain ⟨la, _⟩:=at_size hp h1
 obtain ⟨_, lb⟩:=at_size hp h2
 obtain ⟨ra, _⟩:=nx (x := -(k : Int)) la (by omega) (by omega)
 obtain ⟨rb, _⟩:=nx (x := -(k : Int)) lb (by omega) (by omega)
 have ca:=atLo_cut (S:=Z1) hp
 have cb:=atHi_cut (S:=Z2) hp
 have g11:=fun x W h (hW : Below w.heap.size w W) => i10out_yes (mkM (Z1 - 2097152) (-(p : Int))) (mkE (Z1 - 2097152) (-(p : Int))) (mkM (Z2 + 2097152) (-(p : Int))) (mkE (Z2 + 2097152) (-(p : Int))) (k : Int) x W h (by omega) (by omega) (by omega) (by omega) (by omega) (by omega) (permN (by omega)) (by rw [l5, ca]; exact ra) (by rw [k5, cb]; exact rb) (hT.mono hW)
 rw [l5, k5, ca, cb] at g11
 clear ca cb ra rb la lb l1 l2 l3 l4 l5 k1 k2 k3 k4 k5 al ah b1 b2 b3 c1' c2' c3' r1 r2 r3 s1 s2 s3 t1 t2 t3 a15 hpy hpc u1 u2 u3 y1 y2 y3 h1 h2 hp hk hT hx hy hn hn2 hq
 generalize mkM (Z1 - 2097152) (-(p : Int)) = Mo at *
 generalize mkE (Z1 - 2097152) (-(p : Int)) = Eo at *
 generalize mkM (Z2 + 2097152) (-(p : Int)) = Mi at *
 generalize mkE (Z2 + 2097152) (-(p : Int)) = Ei at *
 generalize mkM (atLo Z1) (-(k : Int)) = Ma at *
 generalize mkE (atLo Z1) (-(k : Int)) = Ea at *
 generalize mkM (atHi Z2) (-(k : Int)) = Nb at *
 generalize mkE (atHi Z2) (-(k : Int)) = Fb at *
 generalize mkM Z1 (-(p : Int)) = M1 at *
 generalize mkE Z1 (-(p : Int)) = E1 at *
 generalize mkM Z2 (-(p : Int)) = M2 at *
 generalize mkE Z2 (-(p : Int)) = E2 at *
 generalize mkM 2097152 (-(p : Int)) = Mu at *
 generalize mkE 2097152 (-(p : Int)) = Eu at *
 have G8:=Hd9 g8
 have G9:=Hd9 g9
 have G10:=Hd9 g10
 have G11:=Hd9 g11
 clear g8 g9 g10 g11
 go_enter Tryz.func79, Tryz.ntmps79
 have L:=(((L0.varD (w.heap.size) (by simp) (ng M1) A (zl M1) c E1).varD (w.heap.size + 1) (by simp) (ng M2) B (zl M2) d E2).varI (w.heap.size + 2) (by simp) false none 0 0 0 false none 0 0 0)
 obtain ⟨c20,c21,c22⟩:=L.tl.tl.b0.a3
 (try go_wp2_with fail)
 refine (G8.out _ L.below).mono ?_
 rintro e w1 ⟨v9, rfl, iz, be⟩
 clear c20 c21 c22
 obtain ⟨A4, c4, rfl, _, in9⟩:=iz.form
 replace L:=(L.step be).n in9
 clear be iz in9
 have hl9:=L.b0.lt
 replace L:=L.varD w1.heap.size rfl (ng Mu) A4 (zl Mu) c4 Eu
 obtain ⟨c00,c01,c02⟩:=L.b0.a3
 obtain ⟨c30,c31,c32⟩:=L.tl.tl.tl.b0.a3
 go_wp2_with fail
 clear c00 c01 c02 c30 c31 c32
 obtain ⟨gm, hgm⟩:=nm9 (w1.heap.size)
 rw [hgm] at L hl9 ⊢
 clear hgm
 have hl_gm:=hl9
 clear hl9
 refine (G9.out _ _ _ (isD_n (m:=M1) (e:=E1) (s:=.slice A (zl M1) c) (L.getN (by simp))) (isD_n (m:=Mu) (e:=Eu) (s:=.slice A4 (zl Mu) c4) (L.getN (by simp))) L.below).mono ?_
 rintro e w2 ⟨v9, rfl, iz, be⟩
 obtain ⟨A5, c5, rfl, _, in9⟩:=iz.form
 replace L:=(L.step be).n in9
 clear be iz in9
 have hl9:=L.b0.lt
 replace L:=L.varD w2.heap.size rfl (ng Mo) A5 (zl Mo) c5 Eo
 obtain ⟨c10,c11,c12⟩:=L.tl.b0.a3
 obtain ⟨c30,c31,c32⟩:=L.tl.tl.tl.b0.a3
 go_wp2_with fail
 clear c10 c11 c12 c30 c31 c32
 obtain ⟨gl, hgl⟩:=nm9 (w2.heap.size)
 rw [hgl] at L hl9 ⊢
 clear hgl
 have hl_gl:=hl9
 clear hl9
 refine (G10.out _ _ _ (isD_n (m:=M2) (e:=E2) (s:=.slice B (zl M2) d) (L.getN (by simp))) (isD_n (m:=Mu) (e:=Eu) (s:=.slice A4 (zl Mu) c4) (L.getN (by simp))) L.below).mono ?_
 rintro e w3 ⟨v9, rfl, iz, be⟩
 obtain ⟨A6, c6, rfl, _, in9⟩:=iz.form
 replace L:=(L.step be).n in9
 clear be iz in9
 have hl9:=L.b0.lt
 replace L:=L.varD w3.heap.size rfl (ng Mi) A6 (zl Mi) c6 Ei
 obtain ⟨c00,c01,c02⟩:=L.b0.a3
 obtain ⟨c10,c11,c12⟩:=L.tl.b0.a3
 go_wp2_with fail
 clear c00 c01 c02 c10 c11 c12
 obtain ⟨gh, hgh⟩:=nm9 (w3.heap.size)
 rw [hgh] at L hl9 ⊢
 clear hgh
 have hl_gh:=hl9
 clear hl9
 refine (G11.out _ _ (isI_n (m:=Mo) (e:=Eo) (n:=Mi) (f:=Ei) (s:=.slice A5 (zl Mo) c5) (t:=.slice A6 (zl Mi) c6) (L.getN (by simp)) (L.getN (by simp))) L.below).mono ?_
 rintro e w4 ⟨v2, rfl, ii, be⟩
 obtain ⟨A8, c8, B8, d8, rfl, ia, ib⟩:=ii.form
 replace L:=((L.step be).n ib).n ia
 clear be ii ia ib
 have L9:=L.subx (ns':=[(.slice A8 (zl Ma) c8, Ma.natAbs), (.slice B8 (zl Nb) d8, Nb.natAbs)]) (bs':=[(w.heap.size + 1 + 1, 28, #[.bool false, .slice none 0 0, .int .i64 0, .bool false, .slice none 0 0, .int .i64 0])]) (by simp) (by simp)
 clear L
 have L:=L9
 clear L9
 obtain ⟨c00,c01,c02,c03,c04,c05⟩:=L.b0.a6
 obtain ⟨f00,f01,f02,f03,f04,f05⟩:=L.b0.f6
 go_wp2_with fail
 clear c00 f00 c01 f01 c02 f02 c03 f03 c04 f04 c05 f05
 have LP:=L.putI (by omega) (by first | (simp; done) | (simp; omega)) (ng Ma) A8 (zl Ma) c8 Ea (ng Nb) B8 (zl Nb) d8 Fb
 obtain ⟨k0,k1,k2,k3,k4,k5⟩:=LP.b0.a6
 unfold put6 at k0 k1 k2 k3 k4 k5
 exact bodyPost_ret (v:=.tuple #[.agg #[.bool (ng Ma), .slice A8 (zl Ma) c8, .int .i64 Ea, .bool (ng Nb), .slice B8 (zl Nb) d8, .int .i64 Fb], .int .i64 0]) (by simp [results, Tryz.results79, go_sem, k0, k1, k2, k3, k4, k5]) rfl ⟨_, rfl, isI_n (LP.getN (by simp)) (LP.getN (by simp)), LP.below⟩
theorem tatan_yes (m e n f : Int) (k : Nat) (vx : Value) (w : World) (hx : IsI w vx m e n f) (lm : zl m ≤ 100) (ln : zl n ≤ 100) (he : -4000 ≤ e ∧ e ≤ 4000) (hf : -4000 ≤ f ∧ f ≤ 4000) (hv : Dv m e) (hv2 : Dv n f) (hsm : smallB m e n f = true) (hk : k ≤ 600) (hT : Tab w) :
  Calls Tryz.prog 21 #[vx, .int .i64 (k : Int)] w (RetTn w k m e n f):=by
 obtain ⟨A, c, B, d, rfl, hn1, hn2⟩:=hx.form
 have L0:=((Lq.mk0 w).n hn2).n hn1
 have HT:=Hd9 (fun W (hW : Below w.heap.size w W) => hT.mono hW)
 have HP0:=fun W => tperm_any (k : Int) W
 rw [okA_yes (by omega)] at HP0
 have HP:=Hd9 HP0
 have hmn : dcm m e n f ≤ 0:=by
  unfold smallB at hsm
  rw [Bool.and_eq_true] at hsm
  exact of_decide_eq_true hsm.1
 have g3:=fun x W h => asmall_any m e n f x W h (by omega) (by omega) (by omega) (by omega) hv hv2
 rw [hsm] at g3
 obtain ⟨p, hp⟩:=nm9 (k + 32)
 have w1 : IntKind.i64.wrap ((k : Int) + 32) = (p : Int):=by rw [IntKind.wrap_i64]; omega
 have g5:=fun x W h (hW : Below w.heap.size w W) => ttan_any m e p x W h hv (by omega) (by omega) (by omega) (hT.mono hW)
 have g6:=fun x y W h i => dcmp_any m e n f x y W h i (by omega) (by omega) (by omega) (by omega)
 rw [show cmpI (m * 2 ^ (e - min e f).toNat) (n * 2 ^ (f - min e f).toNat) = dcm m e n f from rfl] at g6
 have g7:=fun x W h (hW : Below w.heap.size w W) => ttan_any n f p x W h hv2 (by omega) (by omega) (by omega) (hT.mono hW)
 have HQ:=Hd9 (And.intro hp hk)
 have hcase : (dcm m e n f < 0) ∨ (m = n ∧ e = f ∧ dcm m e n f = 0):=by
  rcases Int.lt_or_le (dcm m e n f) 0 with q9 | q9
  ·exact Or.inl q9
  ·have q0 : dcm m e n f = 0:=by omega
   obtain ⟨a, b⟩:=(dcm_eq hv hv2).1 q0
   exact Or.inr ⟨a, b, q0⟩
 generalize dcm m e n f = cn at *
 clear hmn hk hv hv2 lm ln he hf hsm hT hx HP0 hp
 have G3:=Hd9 g3
 have G5:=Hd9 g5
 have G6:=Hd9 g6
 have G7:=Hd9 g7
 clear g3 g5 g6 g7
 rcases hcase with hlt | ⟨rfl, rfl, hlt⟩
 ·have d2 : decide (cn < 0) = true:=decide_eq_true hlt
  go_enter Tryz.func21, Tryz.ntmps21
  have L:=((L0.varI (w.heap.size) (by simp) (ng m) A (zl m) c e (ng n) B (zl n) d f).varI (w.heap.size + 1) (by simp) false none 0 0 0 false none 0 0 0)
  obtain ⟨c10,c11,c12,c13,c14,c15⟩:=L.tl.b0.a6
  (try go_wp2_with fail)
  refine (HP.out _).mono ?_
  rintro e9 w' ⟨rfl, rfl⟩
  (try go_wp2_with fail)
  refine (G3.out _ _ (isI_n (m:=m) (e:=e) (n:=n) (f:=f) (s:=.slice A (zl m) c) (t:=.slice B (zl n) d) (L.getN (by simp)) (L.getN (by simp)))).mono ?_
  rintro e w1 ⟨rfl, be⟩
  clear c10 c11 c12 c13 c14 c15
  replace L:=L.step be
  clear be
  obtain ⟨c10,c11,c12,c13,c14,c15⟩:=L.tl.b0.a6
  (try go_wp2_with fail)
  refine (G5.out _ _ (isD_n (m:=m) (e:=e) (s:=.slice A (zl m) c) (L.getN (by simp))) L.below).mono ?_
  rintro e w2 ⟨s1, ok1, hs1, v9, rfl, iz, be⟩
  clear c10 c11 c12 c13 c14 c15
  obtain ⟨A2, c2, rfl, _, in9⟩:=iz.form
  replace L:=(L.step be).n in9
  clear be iz in9
  have hl9:=L.b0.lt
  obtain ⟨M1, hM1⟩:=nm9 (mkM s1 (-(p : Int)))
  obtain ⟨E1, hE1⟩:=nm9 (mkE s1 (-(p : Int)))
  rw [hM1] at L ⊢
  rw [hE1]
  have HW1:=Hd9 (And.intro ok1 (And.intro hs1 (And.intro hM1 hE1)))
  clear ok1 hs1 hM1 hE1
  replace L:=L.varD w2.heap.size rfl (ng M1) A2 (zl M1) c2 E1
  obtain ⟨c00,c01,c02⟩:=L.b0.a3
  replace L:=L.varD (w2.heap.size + 1) (by simp) (ng M1) A2 (zl M1) c2 E1
  obtain ⟨d00,d01,d02,d03,d04,d05⟩:=L.tl.tl.tl.b0.a6
  (try go_wp2_with fail)
  clear c00 c01 c02 d00 d01 d02 d03 d04 d05
  obtain ⟨g1, hg1⟩:=nm9 (w2.heap.size)
  rw [hg1] at L hl9 ⊢
  clear hg1
  have hl_g1:=hl9
  clear hl9
  refine (G6.out _ _ _ (isD_n (m:=m) (e:=e) (s:=.slice A (zl m) c) (L.getN (by simp))) (isD_n (m:=n) (e:=f) (s:=.slice B (zl n) d) (L.getN (by simp)))).mono ?_
  rintro e w3 ⟨rfl, be⟩
  replace L:=L.step be
  clear be
  obtain ⟨c30,c31,c32,c33,c34,c35⟩:=L.tl.tl.tl.b0.a6
  (try go_wp2_with fail)
  refine (G7.out _ _ (isD_n (m:=n) (e:=f) (s:=.slice B (zl n) d) (L.getN (by simp))) L.below).mono ?_
  rintro e w4 ⟨s2, ok2, hs2, v9, rfl, iz, be⟩
  clear c30 c31 c32 c33 c34 c35
  obtain ⟨A3, c3, rfl, _, in9⟩:=iz.form
  replace L:=(L.step be).n in9
  clear be iz in9
  obtain ⟨M2, hM2⟩:=nm9 (mkM s2 (-(p : Int)))
  obtain ⟨E2, hE2⟩:=nm9 (mkE s2 (-(p : Int)))
  rw [hM2] at L ⊢
  rw [hE2]
  have HW2:=Hd9 (And.intro ok2 (And.intro hs2 (And.intro hM2 hE2)))
  clear ok2 hs2 hM2 hE2
  obtain ⟨c00,c01,c02⟩:=L.b0.a3
  obtain ⟨f00,f01,f02⟩:=L.b0.f3
  have P:=L.putD (by omega) (by first | (simp; done) | (simp; omega)) (ng M2) A3 (zl M2) c3 E2
  obtain ⟨p00,p01,p02⟩:=P.b0.a3
  obtain ⟨p10,p11,p12⟩:=P.tl.b0.a3
  unfold put3 at p00 p01 p02 p10 p11 p12 P
  (try go_wp2_with fail)
  replace L:=P
  clear P p00 p01 p02 p10 p11 p12
  clear c00 f00 c01 f01 c02 f02
  obtain ⟨hp, hk⟩:=HQ.out
  obtain ⟨ok1, hs1, hM1, hE1⟩:=HW1.out
  obtain ⟨ok2, hs2, hM2, hE2⟩:=HW2.out
  have g8:=fun x y W h i (hW : Below w.heap.size w W) => taround_any s1 s2 k p x y W h i hs1 hs2 hp.symm hk (HT.out W hW)
  rw [hM1, hE1] at g8
  rw [hM2, hE2] at g8
  obtain ⟨za, _⟩:=at_size hp.symm hs1
  obtain ⟨_, zb⟩:=at_size hp.symm hs2
  have hR1:=atLo_en hp.symm ok1
  have hR2:=atHi_en hp.symm ok2
  have hR3:=at_tight s1
  obtain ⟨a, ha⟩:=nm9 (atLo s1)
  obtain ⟨b, hb⟩:=nm9 (atHi s2)
  
  rw [ha] at g8 za hR1
  rw [hb] at g8 zb hR2
  have HR:=Hd9 (And.intro hR1 (And.intro hR2 (And.intro za (And.intro zb hR3))))
  obtain ⟨Ma, hMa⟩:=nm9 (mkM a (-(k : Int)))
  obtain ⟨Ea, hEa⟩:=nm9 (mkE a (-(k : Int)))
  obtain ⟨Nb, hNb⟩:=nm9 (mkM b (-(k : Int)))
  obtain ⟨Fb, hFb⟩:=nm9 (mkE b (-(k : Int)))
  rw [hMa, hEa, hNb, hFb] at g8
  have HN:=Hd9 (And.intro (And.intro hMa hEa) (And.intro hNb hFb))
  have G8:=Hd9 g8
  clear g8 hMa hEa hNb hFb ha hb hR1 hR2 hR3 za zb ok1 hs1 hM1 hE1 hp hk ok2 hs2 hM2 hE2
  (try go_wp2_with fail)
  refine (G8.out _ _ _ (isD_n (m:=M1) (e:=E1) (s:=.slice A2 (zl M1) c2) (L.getN (by simp))) (isD_n (m:=M2) (e:=E2) (s:=.slice A3 (zl M2) c3) (L.getN (by simp))) L.below).mono ?_
  rintro e w5 ⟨v2, rfl, ii, be⟩
  obtain ⟨A8, c8, B8, d8, rfl, ia, ib⟩:=ii.form
  replace L:=((L.step be).n ib).n ia
  clear be ii ia ib
  have hR:=HR.out
  obtain ⟨⟨hMa, hEa⟩, hNb, hFb⟩:=HN.out
  subst hMa hEa hNb hFb
  have L9:=L.subx (ns':=[(.slice A8 (zl (mkM a (-(k : Int)))) c8, (mkM a (-(k : Int))).natAbs), (.slice B8 (zl (mkM b (-(k : Int)))) d8, (mkM b (-(k : Int))).natAbs)]) (bs':=[(w.heap.size + 1, 28, #[.bool false, .slice none 0 0, .int .i64 0, .bool false, .slice none 0 0, .int .i64 0])]) (by simp) (by simp)
  clear L
  have L:=L9
  clear L9
  obtain ⟨c00,c01,c02,c03,c04,c05⟩:=L.b0.a6
  obtain ⟨f00,f01,f02,f03,f04,f05⟩:=L.b0.f6
  go_wp2_with fail
  clear c00 f00 c01 f01 c02 f02 c03 f03 c04 f04 c05 f05
  have LP:=L.putI (by omega) (by first | (simp; done) | (simp; omega)) (ng (mkM a (-(k : Int)))) A8 (zl (mkM a (-(k : Int)))) c8 (mkE a (-(k : Int))) (ng (mkM b (-(k : Int)))) B8 (zl (mkM b (-(k : Int)))) d8 (mkE b (-(k : Int)))
  obtain ⟨k0,k1,k2,k3,k4,k5⟩:=LP.b0.a6
  unfold put6 at k0 k1 k2 k3 k4 k5
  exact bodyPost_ret (v:=.tuple #[.agg #[.bool (ng (mkM a (-(k : Int)))), .slice A8 (zl (mkM a (-(k : Int)))) c8, .int .i64 (mkE a (-(k : Int))), .bool (ng (mkM b (-(k : Int)))), .slice B8 (zl (mkM b (-(k : Int)))) d8, .int .i64 (mkE b (-(k : Int)))], .int .i64 0]) (by simp [results, Tryz.results21, go_sem, k0, k1, k2, k3, k4, k5]) rfl ⟨a, b, ⟨hR.1, hR.2.1, hR.2.2.1, hR.2.2.2.1⟩, _, rfl, isI_n (LP.getN (by simp)) (LP.getN (by simp)), LP.below⟩
 ·have d2 : decide (cn < 0) = false:=decide_eq_false (by omega)
  go_enter Tryz.func21, Tryz.ntmps21
  have L:=((L0.varI (w.heap.size) (by simp) (ng m) A (zl m) c e (ng m) B (zl m) d e).varI (w.heap.size + 1) (by simp) false none 0 0 0 false none 0 0 0)
  obtain ⟨c10,c11,c12,c13,c14,c15⟩:=L.tl.b0.a6
  (try go_wp2_with fail)
  refine (HP.out _).mono ?_
  rintro e9 w' ⟨rfl, rfl⟩
  (try go_wp2_with fail)
  refine (G3.out _ _ (isI_n (m:=m) (e:=e) (n:=m) (f:=e) (s:=.slice A (zl m) c) (t:=.slice B (zl m) d) (L.getN (by simp)) (L.getN (by simp)))).mono ?_
  rintro e w1 ⟨rfl, be⟩
  clear c10 c11 c12 c13 c14 c15
  replace L:=L.step be
  clear be
  obtain ⟨c10,c11,c12,c13,c14,c15⟩:=L.tl.b0.a6
  (try go_wp2_with fail)
  refine (G5.out _ _ (isD_n (m:=m) (e:=e) (s:=.slice A (zl m) c) (L.getN (by simp))) L.below).mono ?_
  rintro e w2 ⟨s1, ok1, hs1, v9, rfl, iz, be⟩
  clear c10 c11 c12 c13 c14 c15
  obtain ⟨A2, c2, rfl, _, in9⟩:=iz.form
  replace L:=(L.step be).n in9
  clear be iz in9
  have hl9:=L.b0.lt
  obtain ⟨M1, hM1⟩:=nm9 (mkM s1 (-(p : Int)))
  obtain ⟨E1, hE1⟩:=nm9 (mkE s1 (-(p : Int)))
  rw [hM1] at L ⊢
  rw [hE1]
  have HW1:=Hd9 (And.intro ok1 (And.intro hs1 (And.intro hM1 hE1)))
  clear ok1 hs1 hM1 hE1
  replace L:=L.varD w2.heap.size rfl (ng M1) A2 (zl M1) c2 E1
  obtain ⟨c00,c01,c02⟩:=L.b0.a3
  replace L:=L.varD (w2.heap.size + 1) (by simp) (ng M1) A2 (zl M1) c2 E1
  obtain ⟨d00,d01,d02,d03,d04,d05⟩:=L.tl.tl.tl.b0.a6
  (try go_wp2_with fail)
  clear c00 c01 c02 d00 d01 d02 d03 d04 d05
  obtain ⟨g1, hg1⟩:=nm9 (w2.heap.size)
  rw [hg1] at L hl9 ⊢
  clear hg1
  have hl_g1:=hl9
  clear hl9
  refine (G6.out _ _ _ (isD_n (m:=m) (e:=e) (s:=.slice A (zl m) c) (L.getN (by simp))) (isD_n (m:=m) (e:=e) (s:=.slice B (zl m) d) (L.getN (by simp)))).mono ?_
  rintro e w3 ⟨rfl, be⟩
  replace L:=L.step be
  clear be
  obtain ⟨c00,c01,c02⟩:=L.b0.a3
  obtain ⟨c10,c11,c12⟩:=L.tl.b0.a3
  (try go_wp2_with fail)
  clear c00 c01 c02 c10 c11 c12
  obtain ⟨hp, hk⟩:=HQ.out
  obtain ⟨ok1, hs1, hM1, hE1⟩:=HW1.out
  have g8:=fun x y W h i (hW : Below w.heap.size w W) => taround_any s1 s1 k p x y W h i hs1 hs1 hp.symm hk (HT.out W hW)
  rw [hM1, hE1] at g8
  obtain ⟨za, _⟩:=at_size hp.symm hs1
  obtain ⟨_, zb⟩:=at_size hp.symm hs1
  have hR1:=atLo_en hp.symm ok1
  have hR2:=atHi_en hp.symm ok1
  have hR3:=at_tight s1
  obtain ⟨a, ha⟩:=nm9 (atLo s1)
  obtain ⟨b, hb⟩:=nm9 (atHi s1)
  rw [ha, hb] at hR3
  rw [ha] at g8 za hR1
  rw [hb] at g8 zb hR2
  have HR:=Hd9 (And.intro hR1 (And.intro hR2 (And.intro za (And.intro zb hR3))))
  obtain ⟨Ma, hMa⟩:=nm9 (mkM a (-(k : Int)))
  obtain ⟨Ea, hEa⟩:=nm9 (mkE a (-(k : Int)))
  obtain ⟨Nb, hNb⟩:=nm9 (mkM b (-(k : Int)))
  obtain ⟨Fb, hFb⟩:=nm9 (mkE b (-(k : Int)))
  rw [hMa, hEa, hNb, hFb] at g8
  have HN:=Hd9 (And.intro (And.intro hMa hEa) (And.intro hNb hFb))
  have G8:=Hd9 g8
  clear g8 hMa hEa hNb hFb ha hb hR1 hR2 hR3 za zb ok1 hs1 hM1 hE1 hp hk
  (try go_wp2_with fail)
  refine (G8.out _ _ _ (isD_n (m:=M1) (e:=E1) (s:=.slice A2 (zl M1) c2) (L.getN (by simp))) (isD_n (m:=M1) (e:=E1) (s:=.slice A2 (zl M1) c2) (L.getN (by simp))) L.below).mono ?_
  rintro e w4 ⟨v2, rfl, ii, be⟩
  obtain ⟨A8, c8, B8, d8, rfl, ia, ib⟩:=ii.form
  replace L:=((L.step be).n ib).n ia
  clear be ii ia ib
  have hR:=HR.out
  obtain ⟨⟨hMa, hEa⟩, hNb, hFb⟩:=HN.out
  subst hMa hEa hNb hFb
  have L9:=L.subx (ns':=[(.slice A8 (zl (mkM a (-(k : Int)))) c8, (mkM a (-(k : Int))).natAbs), (.slice B8 (zl (mkM b (-(k : Int)))) d8, (mkM b (-(k : Int))).natAbs)]) (bs':=[(w.heap.size + 1, 28, #[.bool false, .slice none 0 0, .int .i64 0, .bool false, .slice none 0 0, .int .i64 0])]) (by simp) (by simp)
  clear L
  have L:=L9
  clear L9
  obtain ⟨c00,c01,c02,c03,c04,c05⟩:=L.b0.a6
  obtain ⟨f00,f01,f02,f03,f04,f05⟩:=L.b0.f6
  go_wp2_with fail
  clear c00 f00 c01 f01 c02 f02 c03 f03 c04 f04 c05 f05
  have LP:=L.putI (by omega) (by first | (simp; done) | (simp; omega)) (ng (mkM a (-(k : Int)))) A8 (zl (mkM a (-(k : Int)))) c8 (mkE a (-(k : Int))) (ng (mkM b (-(k : Int)))) B8 (zl (mkM b (-(k : Int)))) d8 (mkE b (-(k : Int)))
  obtain ⟨k0,k1,k2,k3,k4,k5⟩:=LP.b0.a6
  unfold put6 at k0 k1 k2 k3 k4 k5
  exact bodyPost_ret (v:=.tuple #[.agg #[.bool (ng (mkM a (-(k : Int)))), .slice A8 (zl (mkM a (-(k : Int)))) c8, .int .i64 (mkE a (-(k : Int))), .bool (ng (mkM b (-(k : Int)))), .slice B8 (zl (mkM b (-(k : Int)))) d8, .int .i64 (mkE b (-(k : Int)))], .int .i64 0]) (by simp [results, Tryz.results21, go_sem, k0, k1, k2, k3, k4, k5]) rfl ⟨a, b, ⟨hR.1, hR.2.1, hR.2.2.1, hR.2.2.2.1⟩, _, rfl, isI_n (LP.getN (by simp)) (LP.getN (by simp)), LP.below⟩
theorem trecip_arg (n k : Int) (w : World) (hk : okA k = false ∨ n < 2 ∨ 1000000 < n) :
  Calls Tryz.prog 30 #[.int .i64 n, .int .i64 k] w (RetIE w 0 0 0 0 1):=by
 have HP0:=fun W => tperm_any k W
 have HP:=Hd9 HP0
 clear HP0
 obtain ⟨b, hb⟩:=nm9 (okA k)
 rw [hb] at HP hk
 clear hb
 by_cases q1 : b = false
 ·subst q1
  go_enter Tryz.func30, Tryz.ntmps30
  have L:=((Lq.mk0 w).varI (w.heap.size) (by simp) false none 0 0 0 false none 0 0 0)
  obtain ⟨c00,c01,c02,c03,c04,c05⟩:=L.b0.a6
  obtain ⟨f00,f01,f02,f03,f04,f05⟩:=L.b0.f6
  (try go_wp2_with fail)
  refine (HP.out _).mono ?_
  rintro e9 w' ⟨rfl, rfl⟩
  (try go_wp2_with fail)
  exact bodyPost_ret (v:=.tuple #[.agg #[.bool false, .slice none 0 0, .int .i64 0, .bool false, .slice none 0 0, .int .i64 0], .int .i64 1]) (by simp [results, Tryz.results30, go_sem, c00, c01, c02, c03, c04, c05]) rfl ⟨_, rfl, isI_zero _, L.below⟩
 ·have hb : b = true:=by cases b <;> simp_all
  subst hb
  have hk2 : n < 2 ∨ 1000000 < n:=hk.resolve_left (by simp)
  by_cases q2 : n < 2
  ·skip
   go_enter Tryz.func30, Tryz.ntmps30
   have L:=((Lq.mk0 w).varI (w.heap.size) (by simp) false none 0 0 0 false none 0 0 0)
   obtain ⟨c00,c01,c02,c03,c04,c05⟩:=L.b0.a6
   obtain ⟨f00,f01,f02,f03,f04,f05⟩:=L.b0.f6
   (try go_wp2_with fail)
   refine (HP.out _).mono ?_
   rintro e9 w' ⟨rfl, rfl⟩
   (try go_wp2_with fail)
   exact bodyPost_ret (v:=.tuple #[.agg #[.bool false, .slice none 0 0, .int .i64 0, .bool false, .slice none 0 0, .int .i64 0], .int .i64 1]) (by simp [results, Tryz.results30, go_sem, c00, c01, c02, c03, c04, c05]) rfl ⟨_, rfl, isI_zero _, L.below⟩
  ·have q3 : 1000000 < n:=by omega
   have q4 : ¬ n < 2:=by omega
   go_enter Tryz.func30, Tryz.ntmps30
   have L:=((Lq.mk0 w).varI (w.heap.size) (by simp) false none 0 0 0 false none 0 0 0)
   obtain ⟨c00,c01,c02,c03,c04,c05⟩:=L.b0.a6
   obtain ⟨f00,f01,f02,f03,f04,f05⟩:=L.b0.f6
   (try go_wp2_with fail)
   refine (HP.out _).mono ?_
   rintro e9 w' ⟨rfl, rfl⟩
   (try go_wp2_with fail)
   exact bodyPost_ret (v:=.tuple #[.agg #[.bool false, .slice none 0 0, .int .i64 0, .bool false, .slice none 0 0, .int .i64 0], .int .i64 1]) (by simp [results, Tryz.results30, go_sem, c00, c01, c02, c03, c04, c05]) rfl ⟨_, rfl, isI_zero _, L.below⟩
theorem trecip_yes (n : Int) (k : Nat) (w : World) (h2 : 2 ≤ n) (h3 : n ≤ 1000000) (hk : k ≤ 600) (hT : Tab w) :
  Calls Tryz.prog 30 #[.int .i64 n, .int .i64 (k : Int)] w (RetRc w k ((n : Rat)⁻¹)):=by
 have HT:=Hd9 (fun W (hW : Below w.heap.size w W) => hT.mono hW)
 have HP0:=fun W => tperm_any (k : Int) W
 rw [okA_yes (by omega)] at HP0
 have HP:=Hd9 HP0
 obtain ⟨p, hp⟩:=nm9 (k + 32)
 have w1 : IntKind.i64.wrap ((k : Int) + 32) = (p : Int):=by rw [IntKind.wrap_i64]; omega
 have an : AbP n 20:=by
  have e : (2 : Nat) ^ 20 = 1048576:=by decide
  unfold AbP
  rw [e]
  omega
 obtain ⟨v1, v2, v3, v4⟩:=nx_int n p an (by omega)
 have g3:=fun W (hW : Below w.heap.size w W) => dof_any n W (by omega) (by omega) (hT.mono hW)
 rw [v1, v2] at g3
 have g5:=fun x W h (hW : Below w.heap.size w W) => tangle_any (n * 2 ^ p) p x W h (Int.mul_nonneg (by omega) (Int.le_of_lt (pow2_pos p))) v3 (by omega) (hT.mono hW)
 have hn0 : (0 : Rat) < (n : Rat):=Rat.intCast_lt_intCast.2 (show (0 : Int) < n by omega)
 have HE:=Hd9 (fun Z (h : AgI p (n * 2 ^ p) Z) => h.at (x:=(n : Rat)⁻¹) (Rat.inv_pos.2 hn0) (by rw [v4, Rat.inv_inv]; exact Rat.le_refl) (by rw [v4, Rat.inv_inv]; have:=dq_pos (-(p : Int)); grind))
 have d1 : ¬ n < 2:=by omega
 have d2 : ¬ 1000000 < n:=by omega
 have HQ:=Hd9 (And.intro hp hk)
 obtain ⟨MC, hMC⟩:=nm9 (mkM (n * 2 ^ p) (-(p : Int)))
 obtain ⟨EC, hEC⟩:=nm9 (mkE (n * 2 ^ p) (-(p : Int)))
 rw [hMC, hEC] at g3 g5
 have G3:=Hd9 g3
 have G5:=Hd9 g5
 clear g3 g5 hMC hEC v1 v2 v3 v4 an hn0 hk h2 h3 hT HP0 hp
 go_enter Tryz.func30, Tryz.ntmps30
 have L:=((Lq.mk0 w).varI (w.heap.size) (by simp) false none 0 0 0 false none 0 0 0)
 (try go_wp2_with fail)
 refine (HP.out _).mono ?_
 rintro e9 w' ⟨rfl, rfl⟩
 (try go_wp2_with fail)
 refine (G3.out _ L.below).mono ?_
 rintro e w1 ⟨v9, rfl, iz, be⟩
 obtain ⟨A1, c1, rfl, _, in9⟩:=iz.form
 replace L:=(L.step be).n in9
 clear be iz in9
 (try go_wp2_with fail)
 refine (G5.out _ _ (isD_n (m:=MC) (e:=EC) (s:=.slice A1 (zl MC) c1) (L.getN (by simp))) L.below).mono ?_
 rintro e w2 ⟨s1, ok1, hs1, v9, rfl, iz, be⟩
 obtain ⟨A2, c2, rfl, _, in9⟩:=iz.form
 replace L:=(L.step be).n in9
 clear be iz in9
 have hl9:=L.b0.lt
 obtain ⟨M1, hM1⟩:=nm9 (mkM s1 (-(p : Int)))
 obtain ⟨E1, hE1⟩:=nm9 (mkE s1 (-(p : Int)))
 rw [hM1] at L ⊢
 rw [hE1]
 have HW1:=Hd9 (And.intro (HE.out _ ok1) (And.intro hs1 (And.intro hM1 hE1)))
 clear ok1 hs1 hM1 hE1
 replace L:=L.varD w2.heap.size rfl (ng M1) A2 (zl M1) c2 E1
 obtain ⟨c00,c01,c02⟩:=L.b0.a3
 (try go_wp2_with fail)
 clear c00 c01 c02
 obtain ⟨g1, hg1⟩:=nm9 (w2.heap.size)
 rw [hg1] at L hl9 ⊢
 clear hg1
 have hl_g1:=hl9
 clear hl9
 obtain ⟨hp, hk⟩:=HQ.out
 obtain ⟨ok1, hs1, hM1, hE1⟩:=HW1.out
 have g8:=fun x y W h i (hW : Below w.heap.size w W) => taround_any s1 s1 k p x y W h i hs1 hs1 hp.symm hk (HT.out W hW)
 rw [hM1, hE1] at g8
 obtain ⟨za, _⟩:=at_size hp.symm hs1
 obtain ⟨_, zb⟩:=at_size hp.symm hs1
 have hR1:=atLo_en hp.symm ok1
 have hR2:=atHi_en hp.symm ok1
 have hR3:=at_tight s1
 obtain ⟨a, ha⟩:=nm9 (atLo s1)
 obtain ⟨b, hb⟩:=nm9 (atHi s1)
 rw [ha, hb] at hR3
 rw [ha] at g8 za hR1
 rw [hb] at g8 zb hR2
 have HR:=Hd9 (And.intro hR1 (And.intro hR2 (And.intro za (And.intro zb hR3))))
 obtain ⟨Ma, hMa⟩:=nm9 (mkM a (-(k : Int)))
 obtain ⟨Ea, hEa⟩:=nm9 (mkE a (-(k : Int)))
 obtain ⟨Nb, hNb⟩:=nm9 (mkM b (-(k : Int)))
 obtain ⟨Fb, hFb⟩:=nm9 (mkE b (-(k : Int)))
 rw [hMa, hEa, hNb, hFb] at g8
 have HN:=Hd9 (And.intro (And.intro hMa hEa) (And.intro hNb hFb))
 have G8:=Hd9 g8
 clear g8 hMa hEa hNb hFb ha hb hR1 hR2 hR3 za zb ok1 hs1 hM1 hE1 hp hk
 (try go_wp2_with fail)
 refine (G8.out _ _ _ (isD_n (m:=M1) (e:=E1) (s:=.slice A2 (zl M1) c2) (L.getN (by simp))) (isD_n (m:=M1) (e:=E1) (s:=.slice A2 (zl M1) c2) (L.getN (by simp))) L.below).mono ?_
 rintro e w3 ⟨v2, rfl, ii, be⟩
 obtain ⟨A8, c8, B8, d8, rfl, ia, ib⟩:=ii.form
 replace L:=((L.step be).n ib).n ia
 clear be ii ia ib
 have hR:=HR.out
 obtain ⟨⟨hMa, hEa⟩, hNb, hFb⟩:=HN.out
 subst hMa hEa hNb hFb
 have L9:=L.subx (ns':=[(.slice A8 (zl (mkM a (-(k : Int)))) c8, (mkM a (-(k : Int))).natAbs), (.slice B8 (zl (mkM b (-(k : Int)))) d8, (mkM b (-(k : Int))).natAbs)]) (bs':=[(w.heap.size, 28, #[.bool false, .slice none 0 0, .int .i64 0, .bool false, .slice none 0 0, .int .i64 0])]) (by simp) (by simp)
 clear L
 have L:=L9
 clear L9
 obtain ⟨c00,c01,c02,c03,c04,c05⟩:=L.b0.a6
 obtain ⟨f00,f01,f02,f03,f04,f05⟩:=L.b0.f6
 go_wp2_with fail
 clear c00 f00 c01 f01 c02 f02 c03 f03 c04 f04 c05 f05
 have LP:=L.putI (by omega) (by first | (simp; done) | (simp; omega)) (ng (mkM a (-(k : Int)))) A8 (zl (mkM a (-(k : Int)))) c8 (mkE a (-(k : Int))) (ng (mkM b (-(k : Int)))) B8 (zl (mkM b (-(k : Int)))) d8 (mkE b (-(k : Int)))
 obtain ⟨k0,k1,k2,k3,k4,k5⟩:=LP.b0.a6
 unfold put6 at k0 k1 k2 k3 k4 k5
 exact bodyPost_ret (v:=.tuple #[.agg #[.bool (ng (mkM a (-(k : Int)))), .slice A8 (zl (mkM a (-(k : Int)))) c8, .int .i64 (mkE a (-(k : Int))), .bool (ng (mkM b (-(k : Int)))), .slice B8 (zl (mkM b (-(k : Int)))) d8, .int .i64 (mkE b (-(k : Int)))], .int .i64 0]) (by simp [results, Tryz.results30, go_sem, k0, k1, k2, k3, k4, k5]) rfl ⟨a, b, ⟨hR.1, hR.2.1, hR.2.2.1, hR.2.2.2.1, hR.2.2.2.2⟩, _, rfl, isI_n (LP.getN (by simp)) (LP.getN (by simp)), LP.below⟩

theorem abs_floor (y : Int) {n : Int} (hn : 0 < n) : (y / n).natAbs ≤ y.natAbs:=by
 rcases Int.lt_or_le y 0 with h | h
 ·have h1 : y / n < 0:=Int.ediv_neg_of_neg_of_pos h hn
  have h2 : y ≤ y / n:=by
   rw [Int.le_ediv_iff_mul_le hn]
   have:=Int.mul_le_mul_of_nonneg_left (show (1 : Int) ≤ n by omega) (show 0 ≤ -y by omega)
   rw [Int.mul_one, Int.neg_mul] at this
   omega
  omega
 ·have h1:=Int.ediv_nonneg h (show 0 ≤ n by omega)
  have h2:=Int.ediv_le_self n h
  omega
theorem zl_floor (y : Int) {n : Int} (hn : 0 < n) : zl (y / n) ≤ zl y:=len_mono (abs_floor y hn)
theorem zl_cdv (y : Int) {n : Int} (hn : 0 < n) : zl (cdv y n) ≤ zl y:=by
 unfold cdv
 rw [zl_neg]
 exact Nat.le_trans (zl_floor (-y) hn) (Nat.le_of_eq (zl_neg y))

theorem s13overD_any (x n : Int) (vx vn : Value) (w : World) (hx : IsZ w vx x) (hn : IsZ w vn n) (lx : zl x ≤ 1000000) (ln : zl n ≤ 1000000) (h0 : 0 < n) :
  Calls Tryz.prog 195 #[vx, vn, .bool false] w (RetZ w (x / n)):=by
 obtain ⟨A, c, rfl, in1⟩:=hx.form
 obtain ⟨B, d, rfl, in2⟩:=hn.form
 have L0:=((Lq.mk0 w).z hn).z hx
 have g2:=fun v u W h k => rzdivmod_pos x n v u W h k (by omega) (by omega) h0
 obtain ⟨C, hC⟩:=nm9 (x / n)
 obtain ⟨R, hR⟩:=nm9 (x % n)
 rw [hC, hR] at g2
 rw [hC]
 have H2:=Hd9 g2
 clear g2 hC hR hx hn in1 in2 h0
 go_enter Tryz.func195, Tryz.ntmps195
 go_wp2_with fail
 have L:=(((L0.varZ (w.heap.size) (by simp) (ng x) A (zl x) c).varZ (w.heap.size + 1) (by simp) (ng n) B (zl n) d).varZ (w.heap.size + 2) (by simp) false none 0 0)
 obtain ⟨c00,c01⟩:=L.b0.a2
 obtain ⟨f00,f01⟩:=L.b0.f2
 obtain ⟨c10,c11⟩:=L.tl.b0.a2
 obtain ⟨c20,c21⟩:=L.tl.tl.b0.a2
 (try go_wp2_with fail)
 refine (H2.out _ _ _ (L.getZ (by simp)) (L.getZ (by simp))).mono ?_
 rintro e w1 ⟨v1, v2, rfl, i1, i2, be⟩
 clear c00 f00 c01 f01 c10 c11 c20 c21
 replace L:=((L.step be).z i2).z i1
 obtain ⟨A7, c7, rfl, _⟩:=i1.form
 obtain ⟨A6, c6, rfl, _⟩:=i2.form
 clear be i1 i2
 have hlt:=L.b0.lt
 obtain ⟨c00,c01⟩:=L.b0.a2
 obtain ⟨f00,f01⟩:=L.b0.f2
 obtain ⟨c10,c11⟩:=L.tl.b0.a2
 obtain ⟨c20,c21⟩:=L.tl.tl.b0.a2
 replace L:=(L.varZ w1.heap.size rfl (ng C) A7 (zl C) c7).varZ (w1.heap.size + 1) (by simp) (ng R) A6 (zl R) c6
 obtain ⟨y0,y1⟩:=L.tl.b0.a2
 obtain ⟨y2,y3⟩:=L.tl.tl.b0.a2
 obtain ⟨y4,y5⟩:=L.tl.tl.b0.f2
 have d1 : w.heap.size + 2 ≠ w1.heap.size:=by omega
 have d2 : w.heap.size + 2 ≠ w1.heap.size + 1:=by omega
 have d3 : w.heap.size + 1 + 1 ≠ w1.heap.size:=by omega
 have d4 : w.heap.size + 1 + 1 ≠ w1.heap.size + 1:=by omega
 go_wp2_with fail
 clear c00 f00 c01 f01 c10 c11 c20 c21
 replace L:=L.pull2
 have LP:=L.putZ (by omega) (by first | (simp; done) | (simp; omega)) (ng C) A7 (zl C) c7
 obtain ⟨k0,k1⟩:=LP.b0.a2
 unfold put2 at k0 k1
 exact bodyPost_ret (v:=.agg #[.bool (ng C), .slice A7 (zl C) c7]) (by simp [results, Tryz.results195, go_sem, k0, k1]) rfl ⟨_, rfl, LP.hz, LP.below⟩
theorem s13overU_any (x n : Int) (vx vn : Value) (w : World) (hx : IsZ w vx x) (hn : IsZ w vn n) (lx : zl x ≤ 1000000) (ln : zl n ≤ 1000000) (h0 : 0 < n) :
  Calls Tryz.prog 195 #[vx, vn, .bool true] w (RetZ w (cdv x n)):=by
 obtain ⟨A, c, rfl, in1⟩:=hx.form
 obtain ⟨B, d, rfl, in2⟩:=hn.form
 have L0:=((Lq.mk0 w).z hn).z hx
 have z1:=zl_neg x
 have z2:=zl_floor (-x) h0
 unfold cdv
 have g1:=fun v W h => rzneg_any x v W h (by omega)
 have g2:=fun v u W h k => rzdivmod_pos (-x) n v u W h k (by omega) (by omega) h0
 have g3:=fun v W h => rzneg_any (-x / n) v W h (by omega)
 obtain ⟨y, hy⟩:=nm9 (-x)
 rw [hy] at g1 g2 g3 ⊢
 obtain ⟨C, hC⟩:=nm9 (y / n)
 obtain ⟨R, hR⟩:=nm9 (y % n)
 rw [hC, hR] at g2
 rw [hC] at g3 ⊢
 obtain ⟨E, hE⟩:=nm9 (-C)
 rw [hE] at g3 ⊢
 have H1:=Hd9 g1
 have H2:=Hd9 g2
 have H3:=Hd9 g3
 clear g1 g2 g3 hC hR hE hy hx hn in1 in2 h0 z1 z2
 go_enter Tryz.func195, Tryz.ntmps195
 go_wp2_with fail
 have L:=(((L0.varZ (w.heap.size) (by simp) (ng x) A (zl x) c).varZ (w.heap.size + 1) (by simp) (ng n) B (zl n) d).varZ (w.heap.size + 2) (by simp) false none 0 0)
 obtain ⟨c00,c01⟩:=L.b0.a2
 obtain ⟨f00,f01⟩:=L.b0.f2
 obtain ⟨c10,c11⟩:=L.tl.b0.a2
 obtain ⟨c20,c21⟩:=L.tl.tl.b0.a2
 (try go_wp2_with fail)
 clear c00 f00 c01 f01 c10 c11 c20 c21
 obtain ⟨V, hV⟩:=nm9 (((w.alloc (.cells #[.bool (ng x), .slice A (zl x) c] 24)).alloc (.cells #[.bool (ng n), .slice B (zl n) d] 24)).alloc (.cells #[.bool false, .slice none 0 0] 24))
 rw [hV] at L ⊢
 clear hV
 have Q0:=Hd9 (fun Z (hZ : Below V.heap.size V Z) => (L.tl.tl.b0.mono hZ).c20)
 have Q1:=Hd9 (fun Z (hZ : Below V.heap.size V Z) => (L.tl.tl.b0.mono hZ).c21)
 have Q2:=Hd9 (fun Z (hZ : Below V.heap.size V Z) => (L.tl.b0.mono hZ).c20)
 have Q3:=Hd9 (fun Z (hZ : Below V.heap.size V Z) => (L.tl.b0.mono hZ).c21)
 have hgx0:=L.b0.lt
 have D0 : Dq V V [] [(.agg #[.bool (ng x), .slice A (zl x) c], x), (.agg #[.bool (ng n), .slice B (zl n) d], n)] [] []:=⟨((Lq.mk0 V).z (L.getZ (by simp))).z (L.getZ (by simp)), List.nodup_nil, fun p hp => by cases hp⟩
 have LL:=Hd9 L
 clear L
 have D:=D0.drew
 obtain ⟨m, hmw⟩:=nm9 (V.heap.size)
 have hz0 : m ≤ V.heap.size:=by omega
 have hgx : w.heap.size < m:=by omega
 have hgy : w.heap.size + 1 < m:=by omega
 have hmd : V.drew.heap.size = m:=hmw
 go_cut [7, 8, 9] from 14 to 21 (fun s3 s4 s5 wx => s5 = .bool true ∧ Made2Z V C R s3 s4 wx)
 case first =>
  go_region_held3 (fun w' => w'.cell? ⟨w.heap.size, 0, none⟩ = some (.bool (ng x)) ∧ w'.cell? ⟨w.heap.size, 1, none⟩ = some (.slice A (zl x) c) ∧ w'.cell? ⟨(w.heap.size + 1), 0, none⟩ = some (.bool (ng n)) ∧ w'.cell? ⟨(w.heap.size + 1), 1, none⟩ = some (.slice B (zl n) d)) (((try dsimp only); refine ⟨?_, ?_, ?_, ?_⟩ <;> (repeat (first | (with_reducible exact Q0.out _ D.lq.below) | (with_reducible exact Q0.out _ D0.lq.below) | (with_reducible exact Q1.out _ D.lq.below) | (with_reducible exact Q1.out _ D0.lq.below) | (with_reducible exact Q2.out _ D.lq.below) | (with_reducible exact Q2.out _ D0.lq.below) | (with_reducible exact Q3.out _ D.lq.below) | (with_reducible exact Q3.out _ D0.lq.below) | (with_reducible refine c_alloc _ ?_) | (with_reducible refine c_drew ?_) | (with_reducible refine c_set ?_ (by assumption) ?_) | omega)))) (first | (go_at_call 112; (with_reducible refine (H1.out _ _ ?_).mono ?_); (· (first | ((with_reducible refine D.getZ ?_) <;> (repeat (first | (with_reducible exact mS) | apply mT))) | ((with_reducible refine (D.boxZ false none 0 0).getZ ?_) <;> (repeat (first | (with_reducible exact mS) | apply mT))) | ((with_reducible refine (D.boxZ2 false none 0 0 false none 0 0).getZ ?_) <;> (repeat (first | (with_reducible exact mS) | apply mT))) | ((with_reducible refine (D0.boxZ false none 0 0).drew.getZ ?_) <;> (repeat (first | (with_reducible exact mS) | apply mT))) | ((with_reducible refine (D0.boxZ2 false none 0 0 false none 0 0).drew.getZ ?_) <;> (repeat (first | (with_reducible exact mS) | apply mT))))); rintro e9 wh ⟨vh, rfl, iz, be⟩; (first | (replace D:=D.step be) | (replace D:=(D.boxMZ hmd false none 0 0).step be) | (replace D:=(D.boxMZ2 hmd false none 0 0 false none 0 0).step be) | (replace D:=(D.boxZ false none 0 0).step be) | (replace D:=(D.boxZ2 false none 0 0 false none 0 0).step be)); have hz:=be.size; (try simp at hz); replace D:=D.z iz; obtain ⟨A8, c8, rfl, _⟩:=iz.form; clear iz; (try (obtain ⟨q000,q001⟩:=D.lq.b0.a2; obtain ⟨q002,q003⟩:=D.lq.b0.f2)); (try (have q010:=(D.alloc (.cells #[.bool false, .slice none 0 0] 24)).lq.b0.c20; have q011:=(D.alloc (.cells #[.bool false, .slice none 0 0] 24)).lq.b0.c21; have q012:=(D.alloc (.cells #[.bool false, .slice none 0 0] 24)).lq.b0.fr 0; have q013:=(D.alloc (.cells #[.bool false, .slice none 0 0] 24)).lq.b0.fr 1)); (try (have q020:=((D.alloc (.cells #[.bool false, .slice none 0 0] 24)).alloc (.cells #[.bool false, .slice none 0 0] 24)).lq.b0.c20; have q021:=((D.alloc (.cells #[.bool false, .slice none 0 0] 24)).alloc (.cells #[.bool false, .slice none 0 0] 24)).lq.b0.c21; have q022:=((D.alloc (.cells #[.bool false, .slice none 0 0] 24)).alloc (.cells #[.bool false, .slice none 0 0] 24)).lq.b0.fr 0; have q023:=((D.alloc (.cells #[.bool false, .slice none 0 0] 24)).alloc (.cells #[.bool false, .slice none 0 0] 24)).lq.b0.fr 1)); (try (obtain ⟨q100,q101⟩:=D.lq.tl.b0.a2; obtain ⟨q102,q103⟩:=D.lq.tl.b0.f2)); (try (have q110:=(D.alloc (.cells #[.bool false, .slice none 0 0] 24)).lq.tl.b0.c20; have q111:=(D.alloc (.cells #[.bool false, .slice none 0 0] 24)).lq.tl.b0.c21; have q112:=(D.alloc (.cells #[.bool false, .slice none 0 0] 24)).lq.tl.b0.fr 0; have q113:=(D.alloc (.cells #[.bool false, .slice none 0 0] 24)).lq.tl.b0.fr 1)); (try (have q120:=((D.alloc (.cells #[.bool false, .slice none 0 0] 24)).alloc (.cells #[.bool false, .slice none 0 0] 24)).lq.tl.b0.c20; have q121:=((D.alloc (.cells #[.bool false, .slice none 0 0] 24)).alloc (.cells #[.bool false, .slice none 0 0] 24)).lq.tl.b0.c21; have q122:=((D.alloc (.cells #[.bool false, .slice none 0 0] 24)).alloc (.cells #[.bool false, .slice none 0 0] 24)).lq.tl.b0.fr 0; have q123:=((D.alloc (.cells #[.bool false, .slice none 0 0] 24)).alloc (.cells #[.bool false, .slice none 0 0] 24)).lq.tl.b0.fr 1)); (try obtain ⟨na, nb, nc, nd, nl⟩:=D.n0); (try obtain ⟨ne, nf, ng', nh, nm⟩:=D.n1); (try obtain ⟨ni, nj⟩:=D.n01)) | (go_at_call 194; (with_reducible refine (H2.out _ _ _ ?_ ?_).mono ?_); (· (first | ((with_reducible refine D.getZ ?_) <;> (repeat (first | (with_reducible exact mS) | apply mT))) | ((with_reducible refine (D.boxZ false none 0 0).getZ ?_) <;> (repeat (first | (with_reducible exact mS) | apply mT))) | ((with_reducible refine (D.boxZ2 false none 0 0 false none 0 0).getZ ?_) <;> (repeat (first | (with_reducible exact mS) | apply mT))) | ((with_reducible refine (D0.boxZ false none 0 0).drew.getZ ?_) <;> (repeat (first | (with_reducible exact mS) | apply mT))) | ((with_reducible refine (D0.boxZ2 false none 0 0 false none 0 0).drew.getZ ?_) <;> (repeat (first | (with_reducible exact mS) | apply mT))))); (· (first | ((with_reducible refine D.getZ ?_) <;> (repeat (first | (with_reducible exact mS) | apply mT))) | ((with_reducible refine (D.boxZ false none 0 0).getZ ?_) <;> (repeat (first | (with_reducible exact mS) | apply mT))) | ((with_reducible refine (D.boxZ2 false none 0 0 false none 0 0).getZ ?_) <;> (repeat (first | (with_reducible exact mS) | apply mT))) | ((with_reducible refine (D0.boxZ false none 0 0).drew.getZ ?_) <;> (repeat (first | (with_reducible exact mS) | apply mT))) | ((with_reducible refine (D0.boxZ2 false none 0 0 false none 0 0).drew.getZ ?_) <;> (repeat (first | (with_reducible exact mS) | apply mT))))); rintro e9 wh ⟨vh, vj, rfl, iz, iy, be⟩; (first | (replace D:=D.step be) | (replace D:=(D.boxMZ hmd false none 0 0).step be) | (replace D:=(D.boxMZ2 hmd false none 0 0 false none 0 0).step be) | (replace D:=(D.boxZ false none 0 0).step be) | (replace D:=(D.boxZ2 false none 0 0 false none 0 0).step be)); have hzz:=be.size; (try simp at hzz); replace D:=(D.z iy).z iz; obtain ⟨A7, c7, rfl, _⟩:=iz.form; obtain ⟨A6, c6, rfl, _⟩:=iy.form; clear iz iy; (try (obtain ⟨q000,q001⟩:=D.lq.b0.a2; obtain ⟨q002,q003⟩:=D.lq.b0.f2)); (try (have q010:=(D.alloc (.cells #[.bool false, .slice none 0 0] 24)).lq.b0.c20; have q011:=(D.alloc (.cells #[.bool false, .slice none 0 0] 24)).lq.b0.c21; have q012:=(D.alloc (.cells #[.bool false, .slice none 0 0] 24)).lq.b0.fr 0; have q013:=(D.alloc (.cells #[.bool false, .slice none 0 0] 24)).lq.b0.fr 1)); (try (have q020:=((D.alloc (.cells #[.bool false, .slice none 0 0] 24)).alloc (.cells #[.bool false, .slice none 0 0] 24)).lq.b0.c20; have q021:=((D.alloc (.cells #[.bool false, .slice none 0 0] 24)).alloc (.cells #[.bool false, .slice none 0 0] 24)).lq.b0.c21; have q022:=((D.alloc (.cells #[.bool false, .slice none 0 0] 24)).alloc (.cells #[.bool false, .slice none 0 0] 24)).lq.b0.fr 0; have q023:=((D.alloc (.cells #[.bool false, .slice none 0 0] 24)).alloc (.cells #[.bool false, .slice none 0 0] 24)).lq.b0.fr 1)); (try (obtain ⟨q100,q101⟩:=D.lq.tl.b0.a2; obtain ⟨q102,q103⟩:=D.lq.tl.b0.f2)); (try (have q110:=(D.alloc (.cells #[.bool false, .slice none 0 0] 24)).lq.tl.b0.c20; have q111:=(D.alloc (.cells #[.bool false, .slice none 0 0] 24)).lq.tl.b0.c21; have q112:=(D.alloc (.cells #[.bool false, .slice none 0 0] 24)).lq.tl.b0.fr 0; have q113:=(D.alloc (.cells #[.bool false, .slice none 0 0] 24)).lq.tl.b0.fr 1)); (try (have q120:=((D.alloc (.cells #[.bool false, .slice none 0 0] 24)).alloc (.cells #[.bool false, .slice none 0 0] 24)).lq.tl.b0.c20; have q121:=((D.alloc (.cells #[.bool false, .slice none 0 0] 24)).alloc (.cells #[.bool false, .slice none 0 0] 24)).lq.tl.b0.c21; have q122:=((D.alloc (.cells #[.bool false, .slice none 0 0] 24)).alloc (.cells #[.bool false, .slice none 0 0] 24)).lq.tl.b0.fr 0; have q123:=((D.alloc (.cells #[.bool false, .slice none 0 0] 24)).alloc (.cells #[.bool false, .slice none 0 0] 24)).lq.tl.b0.fr 1)); (try obtain ⟨na, nb, nc, nd, nl⟩:=D.n0); (try obtain ⟨ne, nf, ng', nh, nm⟩:=D.n1); (try obtain ⟨ni, nj⟩:=D.n01)))
  all_goals
   go_wp2_with fail
   go_meet
   refine ⟨rfl, ?_⟩
   first
   | ((with_reducible refine made2z_a D ?_ ?_) <;> (repeat (first | (with_reducible exact mS) | apply mT)))
   | ((with_reducible refine made2z_b D ?_ ?_) <;> (repeat (first | (with_reducible exact mS) | apply mT)))
   | ((with_reducible refine made2z_c D ?_ ?_) <;> (repeat (first | (with_reducible exact mS) | apply mT)))
   | ((with_reducible refine made2z_d D ?_ ?_) <;> (repeat (first | (with_reducible exact mS) | apply mT)))
   | ((with_reducible refine made2z_e D ?_ ?_) <;> (repeat (first | (with_reducible exact mS) | apply mT)))
   | ((with_reducible refine made2z_f D ?_ ?_) <;> (repeat (first | (with_reducible exact mS) | apply mT)))
 case rest =>
  obtain ⟨rfl, g1, g2, A1, c1, A2, c2, rfl, rfl, hg1, hg2, hg3, bw, hb1, hb2, hz1, hz2⟩:=hcut
  have hg4:=LL.out.b0.lt
  have L:=((((LL.out.step bw).z hz2).z hz1).b hb2).b hb1
  clear D D0 hmd hz0 hgx hgy Q0 Q1 Q2 Q3 LL hb1 hb2 hz1 hz2 bw
  have e1 : w.heap.size + 2 ≠ g1:=by omega
  have e2 : w.heap.size + 2 ≠ g2:=by omega
  have e3 : w.heap.size + 1 + 1 ≠ g1:=by omega
  generalize wc = wd at *
  obtain ⟨c00,c01⟩:=L.b0.a2
  (try go_wp2_with fail)
  refine (H3.out _ _ (L.getZ (v:=.agg #[.bool (ng C), .slice A1 (zl C) c1]) (by simp))).mono ?_
  rintro e w6 ⟨v1, rfl, iz, be⟩
  clear c00 c01
  replace L:=(L.step be).z iz
  obtain ⟨A9, c9, rfl, _⟩:=iz.form
  clear be iz
  replace L:=L.pull2
  obtain ⟨c00,c01⟩:=L.b0.a2
  obtain ⟨f00,f01⟩:=L.b0.f2
  (try go_wp2_with fail)
  have LP:=L.putZ (by omega) (by first | (simp; done) | (simp; omega)) (ng E) A9 (zl E) c9
  obtain ⟨k0,k1⟩:=LP.b0.a2
  unfold put2 at k0 k1
  exact bodyPost_ret (v:=.agg #[.bool (ng E), .slice A9 (zl E) c9]) (by simp [results, Tryz.results195, go_sem, k0, k1]) rfl ⟨_, rfl, LP.hz, LP.below⟩
def RowZ (w : World) (v : Value) (l : List Int) : Prop:=∃ g c, v = .slice (some ⟨g, 0, none⟩) l.length c ∧ g < w.heap.size ∧ ∀ (j : Nat) (p : Int), l[j]? = some p → ∃ A c, w.cell? ⟨g, 2 * j, none⟩ = some (.bool (ng p)) ∧ w.cell? ⟨g, 2 * j + 1, none⟩ = some (.slice A (zl p) c) ∧ IsZ w (.agg #[.bool (ng p), .slice A (zl p) c]) p
theorem RowZ.mono {w w' : World} {v : Value} {l : List Int} (h : RowZ w v l) (hb : Below w.heap.size w w') : RowZ w' v l:=by
 obtain ⟨g, c, r, hg, h⟩:=h
 refine ⟨g, c, r, Nat.lt_of_lt_of_le hg hb.size, fun j p hp => ?_⟩
 obtain ⟨A, c, h1, h2, h3⟩:=h j p hp
 exact ⟨A, c, (hb.cell (p:=⟨g, 2 * j, none⟩) hg).trans h1, (hb.cell (p:=⟨g, 2 * j + 1, none⟩) hg).trans h2, h3.mono hb⟩
def IsLstZ (x : Int) (l : List Int) : Prop:=x ∈ l ∧ ∀ p ∈ l, x ≤ p
def IsMstZ (x : Int) (l : List Int) : Prop:=x ∈ l ∧ ∀ p ∈ l, p ≤ x
theorem lst_eq {x : Int} {l : List Int} {p : Int} (h : IsLstZ x l) (hp : p ∈ l) (h2 : ∀ q ∈ l, p ≤ q) : p = x:=Int.le_antisymm (h2 x h.1) (h.2 p hp)
theorem mst_eq {x : Int} {l : List Int} {p : Int} (h : IsMstZ x l) (hp : p ∈ l) (h2 : ∀ q ∈ l, q ≤ p) : p = x:=Int.le_antisymm (h.2 p hp) (h2 x h.1)
def LoopZ (l : List Int) (t : Nat) (a1 a2 : Int) : Prop:=a1 ∈ l ∧ a2 ∈ l ∧ ∀ (j : Nat) (p : Int), j < t → l[j]? = some p → a1 ≤ p ∧ p ≤ a2
theorem LoopZ.step {l : List Int} {t : Nat} {a1 a2 a b1 b2 : Int} (h : LoopZ l t a1 a2) (hp : l[t]? = some a) (m1 : b1 ∈ l) (m2 : b2 ∈ l) (x1 : b1 ≤ a1) (x2 : b1 ≤ a) (y1 : a2 ≤ b2) (y2 : a ≤ b2) : LoopZ l (t + 1) b1 b2:=by
 refine ⟨m1, m2, fun j p hj hjp => ?_⟩
 rcases Nat.lt_or_ge j t with h1 | h1
 ·have:=h.2.2 j p h1 hjp
  exact ⟨Int.le_trans x1 this.1, Int.le_trans this.2 y1⟩
 ·obtain rfl : j = t:=by omega
  rw [hp] at hjp
  obtain rfl:=Option.some.inj hjp
  exact ⟨x2, y2⟩
theorem LoopZ.all {l : List Int} {a1 a2 : Int} {n : Nat} (hn : l.length = n) (h : LoopZ l n a1 a2) : (∀ q ∈ l, a1 ≤ q) ∧ ∀ q ∈ l, q ≤ a2:=by
 constructor <;> intro q hq <;> obtain ⟨j, hj, e⟩:=List.getElem_of_mem hq
 ·exact (h.2.2 j q (by omega) (by rw [← e]; exact List.getElem?_eq_getElem hj)).1
 ·exact (h.2.2 j q (by omega) (by rw [← e]; exact List.getElem?_eq_getElem hj)).2
theorem Lq.twoZ {w0 w : World} {ns : List (Value × Nat)} {zs : List (Value × Int)} {qs : List (Value × Int × Nat)} {bs : List (Nat × TypeId × Array Value)} (h : Lq w0 w ns zs qs bs) {p q : Value × Int} {b c : Nat × TypeId × Array Value} (hp : p ∈ zs) (hq : q ∈ zs) (hb : b ∈ bs) (hc : c ∈ bs) : Lq w0 w [] [p, q] [] [b, c]:=
 ⟨h.below, fun _ x => (by cases x), fun x hx => h.zs x (by simp only [List.mem_cons, List.not_mem_nil, or_false] at hx; rcases hx with rfl | rfl <;> assumption), fun _ x => (by cases x), fun x hx => h.bs x (by simp only [List.mem_cons, List.not_mem_nil, or_false] at hx; rcases hx with rfl | rfl <;> assumption)⟩
theorem cmpI_lt0 {x y : Int} : cmpI x y < 0 ↔ x < y:=by
 unfold cmpI
 (repeat' split) <;> omega
theorem cmpI_gt0 {x y : Int} : 0 < cmpI x y ↔ y < x:=by
 unfold cmpI
 (repeat' split) <;> omega

theorem s13hull_any (l : List Int) (lo hi n : Int) (vl vn : Value) (w : World) (hl : RowZ w vl l) (hn : IsZ w vn n) (h0 : 0 < l.length) (hsz : l.length ≤ 1000) (hb : ∀ p ∈ l, zl p ≤ 10000) (hlo : IsLstZ lo l) (hhi : IsMstZ hi l) (ln : zl n ≤ 10000) (hn0 : 0 < n) :
  Calls Tryz.prog 140 #[vl, vn] w (RetSp w (lo / n) (cdv hi n)):=by
 obtain ⟨g, c, rfl, hg, hrow⟩:=hl
 obtain ⟨N, cn, rfl, _⟩:=hn.form
 have HB:=Hd9 hb
 have HLO:=Hd9 hlo
 have HHI:=Hd9 hhi
 have k1:=hb lo hlo.1
 have k2:=hb hi hhi.1
 have o1:=fun v u W h k => s13overD_any lo n v u W h k (by omega) (by omega) hn0
 have o2:=fun v u W h k => s13overU_any hi n v u W h k (by omega) (by omega) hn0
 obtain ⟨X, hX⟩:=nm9 (lo / n)
 obtain ⟨Y, hY⟩:=nm9 (cdv hi n)
 rw [hX] at o1 ⊢
 rw [hY] at o2 ⊢
 have O1:=Hd9 o1
 have O2:=Hd9 o2
 clear o1 o2 hX hY k1 k2
 clear hb hlo hhi hn0
 obtain ⟨a0, hp0⟩ : ∃ p, l[0]? = some p:=⟨l[0], List.getElem?_eq_getElem h0⟩
 obtain ⟨A0, c0, r0, r1, r3⟩:=hrow 0 _ hp0
 have HM0:=Hd9 (List.mem_of_getElem? hp0)
 rw [Nat.mul_zero] at r0 r1
 obtain ⟨k, hk⟩:=nm9 (l.length)
 rw [hk] at h0 hsz ⊢
 have hk0 : (0 : Int) < (k : Int):=by omega
 have HN:=Hd9 hk
 have HROW0:=Hd9 hrow
 clear hp0 hk hrow
 go_enter Tryz.func140, Tryz.ntmps140
 go_wp2_with fail
 have L:=(((((Lq.mk0 w).z hn).z r3).varZ (w.heap.size) (by simp) (ng n) N (zl n) cn).varS (w.heap.size + 1) (by simp) false none 0 0 false none 0 0)
 obtain ⟨c00,c01,c02,c03⟩:=L.b0.a4
 obtain ⟨f00,f01,f02,f03⟩:=L.b0.f4
 obtain ⟨c10,c11⟩:=L.tl.b0.a2
 (try go_wp2_with fail)
 clear c00 f00 c01 f01 c02 f02 c03 f03 c10 c11
 obtain ⟨V, hV⟩:=nm9 ((w.alloc (.cells #[.bool (ng n), .slice N (zl n) cn] 24)).alloc (.cells #[.bool false, .slice none 0 0, .bool false, .slice none 0 0] 79))
 rw [hV] at L ⊢
 clear hV
 have hwV:=L.b0.lt
 have hgV : g < V.heap.size:=by omega
 have HROW:=Hd9 (fun Z (hZ : Below V.heap.size V Z) (j : Nat) (p : Int) (hp : l[j]? = some p) => (show ∃ A c, Z.cell? ⟨g, 2 * j, none⟩ = some (.bool (ng p)) ∧ Z.cell? ⟨g, 2 * j + 1, none⟩ = some (.slice A (zl p) c) ∧ IsZ Z (.agg #[.bool (ng p), .slice A (zl p) c]) p from by
  obtain ⟨A, c, x1, x2, x4⟩:=HROW0.out j p hp
  have hbz:=L.below.trans (hZ.mono L.below.size)
  exact ⟨A, c, (hbz.cell (p:=⟨g, 2 * j, none⟩) hg).trans x1, (hbz.cell (p:=⟨g, 2 * j + 1, none⟩) hg).trans x2, x4.mono hbz⟩))
 have q0:=(L.below.cell (p:=⟨g, 0, none⟩) hg).trans r0
 have q1:=(L.below.cell (p:=⟨g, 0 + 1, none⟩) hg).trans r1
 rw [Nat.zero_add] at q1
 have Q0:=Hd9 (fun Z (hZ : Below V.heap.size V Z) => (hZ.cell (p:=⟨g, 0, none⟩) hgV).trans q0)
 have Q1:=Hd9 (fun Z (hZ : Below V.heap.size V Z) => (hZ.cell (p:=⟨g, 1, none⟩) hgV).trans q1)
 clear q0 q1 r0 r1 r3 HROW0 hn
 have D0 : Dq V V [] [(.agg #[.bool (ng a0), .slice A0 (zl a0) c0], a0)] [] []:=⟨(Lq.mk0 V).z (L.getZ (by simp)), List.nodup_nil, fun p hp => by cases hp⟩
 have D:=D0.drew
 have LL:=Hd9 L
 clear L
 obtain ⟨K, hK⟩:=nm9 (V.heap.size)
 have hz0 : K ≤ V.heap.size:=by omega
 have hcg : g < K:=by omega
 have hmd : V.drew.heap.size = K:=hK
 go_cut [5, 6] from 9 to 14 (fun s6 s7 wx => Made2Z V a0 a0 s6 s7 wx)
 case first =>
  go_region_held3 (fun w' => w'.cell? ⟨g, 0, none⟩ = some (.bool (ng a0)) ∧ w'.cell? ⟨g, 1, none⟩ = some (.slice A0 (zl a0) c0)) (((try dsimp only); refine ⟨?_, ?_⟩ <;> (repeat (first | (with_reducible exact Q0.out _ D.lq.below) | (with_reducible exact Q0.out _ D0.lq.below) | (with_reducible exact Q1.out _ D.lq.below) | (with_reducible exact Q1.out _ D0.lq.below) | (with_reducible refine c_alloc _ ?_) | (with_reducible refine c_drew ?_) | (with_reducible refine c_set ?_ (by assumption) ?_) | omega)))) (fail)
  all_goals
   go_wp2_with fail
   go_meet
   have E1:=(D0.boxZ2 (ng a0) A0 (zl a0) c0 (ng a0) A0 (zl a0) c0).drew
   rw [hK] at E1
   first
   | exact made2z_of E1.swap (by simp) (by simp)
   | exact made2z_of E1 (by simp) (by simp)
 case rest =>
  obtain ⟨g5, g6, A1, c1, A2, c2, rfl, rfl, hg5, hg6, hg56, bw, hb1, hb2, hq1, hq2⟩:=hcut
  have L:=(((((Lq.mk0 V).step bw).z hq2).z hq1).b hb2).b hb1
  clear D D0 hmd hz0 hK hb1 hb2 hq1 hq2 bw Q0 Q1 hcg
  generalize wc = wd at *
  have HF:=Hd9 (show LoopZ l 0 a0 a0 from ⟨HM0.out, HM0.out, fun j p hj => absurd hj (Nat.not_lt_zero j)⟩)
  (try go_wp2_with fail)
  go_loopw [17] (fun i wr => ∃ (t : Nat) (a1 : Int) (A1 : Option Addr) (c1 : Nat) (a2 : Int) (A2 : Option Addr) (c2 : Nat), i = .int .i64 (t : Int) ∧ t ≤ k ∧ Lq V wr [] [(.agg #[.bool (ng a1), .slice A1 (zl a1) c1], a1), (.agg #[.bool (ng a2), .slice A2 (zl a2) c2], a2)] [] [(g5, 24, #[.bool (ng a1), .slice A1 (zl a1) c1]), (g6, 24, #[.bool (ng a2), .slice A2 (zl a2) c2])] ∧ Hid (LoopZ l t a1 a2)) (fun i _ => k - (intOf i).toNat)
  case atStart => exact ⟨0, a0, A1, c1, a0, A2, c2, rfl, by omega, L, HF⟩
  case round =>
   clear L HF
   obtain ⟨t, a1, A1, c1, a2, A2, c2, rfl, ht, L, HF⟩:=hrel
   rcases Nat.eq_or_lt_of_le ht with rfl | ht3
   ·have ha:=HF.out.all HN.out
    have el:=lst_eq HLO.out HF.out.1 ha.1
    have eh:=mst_eq HHI.out HF.out.2.1 ha.2
    subst el eh
    have hv6:=L.tl.b0
    have hv5:=L.b0
    have L:=(((((LL.out.step L.below).z (L.getZ (v:=.agg #[.bool (ng a2), .slice A2 (zl a2) c2]) (x:=a2) (by simp))).z (L.getZ (v:=.agg #[.bool (ng a1), .slice A1 (zl a1) c1]) (x:=a1) (by simp))).b hv6).b hv5).pull2
    clear hv5 hv6 HF HROW LL
    have e1 : w.heap.size + 1 ≠ g5:=by omega
    have e2 : w.heap.size + 1 ≠ g6:=by omega
    (try go_wp2_with fail)
    replace L:=L.drew
    obtain ⟨c00,c01,c02,c03⟩:=L.b0.a4
    obtain ⟨f00,f01,f02,f03⟩:=L.b0.f4
    obtain ⟨c10,c11⟩:=L.tl.b0.a2
    obtain ⟨c20,c21⟩:=L.tl.tl.b0.a2
    obtain ⟨c30,c31⟩:=L.tl.tl.tl.b0.a2
    go_region_held3 (fun w' => w'.cell? ⟨g5, 0, none⟩ = some (.bool (ng a1)) ∧ w'.cell? ⟨g5, 1, none⟩ = some (.slice A1 (zl a1) c1) ∧ w'.cell? ⟨g6, 0, none⟩ = some (.bool (ng a2)) ∧ w'.cell? ⟨g6, 1, none⟩ = some (.slice A2 (zl a2) c2) ∧ w'.cell? ⟨w.heap.size, 0, none⟩ = some (.bool (ng n)) ∧ w'.cell? ⟨w.heap.size, 1, none⟩ = some (.slice N (zl n) cn)) (first | (with_reducible exact ⟨L.tl.b0.c20, L.tl.b0.c21, L.tl.tl.b0.c20, L.tl.tl.b0.c21, L.tl.tl.tl.b0.c20, L.tl.tl.tl.b0.c21⟩) | (have LP:=L.putS (by omega) (by first | (simp; done) | (simp; omega)) (ng X) A8 (zl X) c8 (ng Y) A9 (zl Y) c9; unfold put4 at LP; with_reducible exact ⟨LP.tl.b0.c20, LP.tl.b0.c21, LP.tl.tl.b0.c20, LP.tl.tl.b0.c21, LP.tl.tl.tl.b0.c20, LP.tl.tl.tl.b0.c21⟩) | exact ⟨L.tl.b0.c20, L.tl.b0.c21, L.tl.tl.b0.c20, L.tl.tl.b0.c21, L.tl.tl.tl.b0.c20, L.tl.tl.tl.b0.c21⟩) (first | (go_at_call 195; (with_reducible refine (O1.out _ _ _ ?_ ?_ ).mono ?_); (· (refine L.getZ ?_; (repeat (first | (with_reducible exact mS) | apply mT)))); (· (refine L.getZ ?_; (repeat (first | (with_reducible exact mS) | apply mT)))); rintro e wh ⟨vh, rfl, iz, be⟩; obtain ⟨A8, c8, rfl, in9⟩:=iz.form; replace L:=(L.step be).n in9; clear be iz in9; (try (obtain ⟨x00,x01,x02,x03⟩:=L.b0.a4; obtain ⟨y00,y01,y02,y03⟩:=L.b0.f4))) | (go_at_call 195; (with_reducible refine (O2.out _ _ _ ?_ ?_ ).mono ?_); (· (refine L.getZ ?_; (repeat (first | (with_reducible exact mS) | apply mT)))); (· (refine L.getZ ?_; (repeat (first | (with_reducible exact mS) | apply mT)))); rintro e wh ⟨vh, rfl, iz, be⟩; obtain ⟨A9, c9, rfl, in9⟩:=iz.form; replace L:=(L.step be).n in9; clear be iz in9; (try (obtain ⟨x00,x01,x02,x03⟩:=L.b0.a4; obtain ⟨y00,y01,y02,y03⟩:=L.b0.f4))))
    clear c00 f00 c01 f01 c02 f02 c03 f03 c10 c11 c20 c21 c30 c31
    go_wp2_with fail
    have LP:=L.putS (by omega) (by first | (simp; done) | (simp; omega)) (ng X) A8 (zl X) c8 (ng Y) A9 (zl Y) c9
    obtain ⟨k0,k1,k2,k3⟩:=LP.b0.a4
    unfold put4 at k0 k1 k2 k3
    exact bodyPost_ret (v:=.agg #[.bool (ng X), .slice A8 (zl X) c8, .bool (ng Y), .slice A9 (zl Y) c9]) (by simp [results, Tryz.results140, go_sem, k0, k1, k2, k3]) rfl ⟨_, rfl, isS_n (LP.getN (by simp)) (LP.getN (by simp)), LP.below⟩
   ·obtain ⟨a, hp⟩ : ∃ p, l[t]? = some p:=⟨_, List.getElem?_eq_getElem (by rw [HN.out]; exact ht3)⟩
    obtain ⟨A, cc, e0, e1, iq⟩:=HROW.out _ L.below t _ hp
    rw [Nat.mul_comm 2 t] at e0 e1
    have HP:=Hd9 hp
    have hd:=HB.out _ (List.mem_of_getElem? hp)
    have hd1:=HB.out _ HF.out.1
    have hd2:=HB.out _ HF.out.2.1
    have z1:=fun v u W h1 h2 => rzcmp_any a a1 v u W h1 h2 (by omega) (by omega)
    have z2:=fun v u W h1 h2 => rzcmp_any a a2 v u W h1 h2 (by omega) (by omega)
    have j1:=cmpI_lt0 (x:=a) (y:=a1)
    have j2:=cmpI_gt0 (x:=a) (y:=a2)
    obtain ⟨x1, hx1⟩:=nm9 (cmpI a a1)
    obtain ⟨x2, hx2⟩:=nm9 (cmpI a a2)
    rw [hx1] at z1 j1
    rw [hx2] at z2 j2
    have C1:=Hd9 z1
    have C2:=Hd9 z2
    have J1:=Hd9 j1
    have J2:=Hd9 j2
    have hlt : (t : Int) < (k : Int):=by omega
    have ht0 : (0 : Int) ≤ (t : Int):=by omega
    have hl5:=L.b0.lt
    have hl6:=L.tl.b0.lt
    clear hp z1 z2 j1 j2 hx1 hx2 hd hd1 hd2
    replace L:=(L.z iq).varZ wr.heap.size rfl (ng a) A (zl a) cc
    clear iq
    obtain ⟨cel00,cel01⟩:=L.b0.a2
    obtain ⟨cel10,cel11⟩:=L.tl.b0.a2
    go_wp2_with fail
    obtain ⟨gx, hgx⟩:=nm9 (wr.heap.size)
    rw [hgx] at L hl5 hl6 cel00 cel01 ⊢
    clear hgx e0 e1
    have n1 : g5 ≠ gx:=by omega
    have n2 : g6 ≠ gx:=by omega
    have n3 : g6 ≠ g5:=Ne.symm hg56
    refine (C1.out _ _ _ (L.getZ (v:=.agg #[.bool (ng a), .slice A (zl a) cc]) (x:=a) (by simp)) (L.getZ (v:=.agg #[.bool (ng a1), .slice A1 (zl a1) c1]) (x:=a1) (by simp))).mono ?_
    rintro e w21 ⟨rfl, be⟩
    clear cel00 cel01 cel10 cel11
    replace L:=L.step be
    clear be
    by_cases y1 : x1 < 0
    ·have t1 : decide (x1 < 0) = true:=decide_eq_true y1
     obtain ⟨cel00,cel01⟩:=L.b0.a2
     obtain ⟨f00,f01⟩:=L.b0.f2
     obtain ⟨cel10,cel11⟩:=L.tl.b0.a2
     obtain ⟨f10,f11⟩:=L.tl.b0.f2
     have P:=(L.swap.putZ hg5 (by simp [n1, n2, n3, Ne.symm n1]) (ng a) A (zl a) cc).swap
     obtain ⟨p0,p1⟩:=P.b0.a2
     obtain ⟨p3,p4⟩:=P.tl.tl.b0.a2
     unfold put2 at p0 p1 p3 p4 P
     replace L:=P
     go_wp2_with fail
     refine (C2.out _ _ _ (L.getZ (v:=.agg #[.bool (ng a), .slice A (zl a) cc]) (x:=a) (by simp)) (L.getZ (v:=.agg #[.bool (ng a2), .slice A2 (zl a2) c2]) (x:=a2) (by simp))).mono ?_
     rintro e w22 ⟨rfl, be⟩
     replace L:=L.step be
     clear be
     by_cases y2 : 0 < x2
     ·have t2 : decide (0 < x2) = true:=decide_eq_true y2
      obtain ⟨cel00,cel01⟩:=L.b0.a2
      obtain ⟨f00,f01⟩:=L.b0.f2
      obtain ⟨cel20,cel21⟩:=L.tl.tl.b0.a2
      obtain ⟨f20,f21⟩:=L.tl.tl.b0.f2
      have P:=(L.pull2.putZ hg6 (by simp [n1, n2, n3, Ne.symm n1, Ne.symm n2, Ne.symm n3]) (ng a) A (zl a) cc)
      unfold put2 at P
      replace L:=P
      go_wp2_with fail
      go_roundw
      case rel => exact ⟨t + 1, a, A, cc, a, A, cc, by go_num, by omega, L.twoZ (by simp) (by simp) (by simp) (by simp), Hd9 (HF.out.step HP.out (List.mem_of_getElem? HP.out) (List.mem_of_getElem? HP.out) (Int.le_of_lt (J1.out.1 y1)) (Int.le_refl _) (Int.le_of_lt (J2.out.1 y2)) (Int.le_refl _))⟩
      case measure => simp [intOf]; omega
     ·have t2 : decide (0 < x2) = false:=decide_eq_false y2
      obtain ⟨cel00,cel01⟩:=L.b0.a2
      obtain ⟨f00,f01⟩:=L.b0.f2
      obtain ⟨cel20,cel21⟩:=L.tl.tl.b0.a2
      obtain ⟨f20,f21⟩:=L.tl.tl.b0.f2
      go_wp2_with fail
      go_roundw
      case rel => exact ⟨t + 1, a, A, cc, a2, A2, c2, by go_num, by omega, L.twoZ (by simp) (by simp) (by simp) (by simp), Hd9 (HF.out.step HP.out (List.mem_of_getElem? HP.out) HF.out.2.1 (Int.le_of_lt (J1.out.1 y1)) (Int.le_refl _) (Int.le_refl _) (Int.not_lt.1 (fun h => absurd (J2.out.2 h) (by omega))))⟩
      case measure => simp [intOf]; omega
    ·have t1 : decide (x1 < 0) = false:=decide_eq_false y1
     obtain ⟨cel00,cel01⟩:=L.b0.a2
     obtain ⟨f00,f01⟩:=L.b0.f2
     obtain ⟨cel20,cel21⟩:=L.tl.tl.b0.a2
     go_wp2_with fail
     refine (C2.out _ _ _ (L.getZ (v:=.agg #[.bool (ng a), .slice A (zl a) cc]) (x:=a) (by simp)) (L.getZ (v:=.agg #[.bool (ng a2), .slice A2 (zl a2) c2]) (x:=a2) (by simp))).mono ?_
     rintro e w22 ⟨rfl, be⟩
     replace L:=L.step be
     clear be
     by_cases y2 : 0 < x2
     ·have t2 : decide (0 < x2) = true:=decide_eq_true y2
      obtain ⟨cel00,cel01⟩:=L.b0.a2
      obtain ⟨f00,f01⟩:=L.b0.f2
      obtain ⟨cel20,cel21⟩:=L.tl.tl.b0.a2
      obtain ⟨f20,f21⟩:=L.tl.tl.b0.f2
      have P:=(L.pull2.putZ hg6 (by simp [n1, n2, n3, Ne.symm n1, Ne.symm n2, Ne.symm n3]) (ng a) A (zl a) cc)
      unfold put2 at P
      replace L:=P
      go_wp2_with fail
      go_roundw
      case rel => exact ⟨t + 1, a1, A1, c1, a, A, cc, by go_num, by omega, L.twoZ (by simp) (by simp) (by simp) (by simp), Hd9 (HF.out.step HP.out HF.out.1 (List.mem_of_getElem? HP.out) (Int.le_refl _) (Int.not_lt.1 (fun h => absurd (J1.out.2 h) (by omega))) (Int.le_of_lt (J2.out.1 y2)) (Int.le_refl _))⟩
      case measure => simp [intOf]; omega
     ·have t2 : decide (0 < x2) = false:=decide_eq_false y2
      obtain ⟨cel00,cel01⟩:=L.b0.a2
      obtain ⟨f00,f01⟩:=L.b0.f2
      obtain ⟨cel20,cel21⟩:=L.tl.tl.b0.a2
      obtain ⟨f20,f21⟩:=L.tl.tl.b0.f2
      go_wp2_with fail
      go_roundw
      case rel => exact ⟨t + 1, a1, A1, c1, a2, A2, c2, by go_num, by omega, L.twoZ (by simp) (by simp) (by simp) (by simp), Hd9 (HF.out.step HP.out HF.out.1 HF.out.2.1 (Int.le_refl _) (Int.not_lt.1 (fun h => absurd (J1.out.2 h) (by omega))) (Int.le_refl _) (Int.not_lt.1 (fun h => absurd (J2.out.2 h) (by omega))))⟩
      case measure => simp [intOf]; omega

theorem rowZ_2 {w : World} {g : Nat} {a b : Int} {c d : Nat} {A B : Option Addr} (hv : Var w g 24 #[.bool (ng a), .slice A (zl a) c, .bool (ng b), .slice B (zl b) d]) (h1 : IsN w (.slice A (zl a) c) a.natAbs) (h2 : IsN w (.slice B (zl b) d) b.natAbs) : RowZ w (.slice (some ⟨g, 0, none⟩) 2 2) [a, b]:=by
  refine ⟨g, 2, rfl, hv.lt, fun j p hp => ?_⟩
  match j with
  | 0 =>
    obtain rfl : a = p:=by simpa using hp
    exact ⟨A, c, hv.cell 0, hv.cell 1, isZ_s h1⟩
  | 1 =>
    obtain rfl : b = p:=by simpa using hp
    exact ⟨B, d, hv.cell 2, hv.cell 3, isZ_s h2⟩
  | j + 2 => simp at hp
theorem lst_2 {a b : Int} (h : a ≤ b) : IsLstZ a [a, b]:=⟨by simp, fun p hp => by
 simp only [List.mem_cons, List.not_mem_nil, or_false] at hp
 rcases hp with rfl | rfl <;> omega⟩
theorem mst_2 {a b : Int} (h : a ≤ b) : IsMstZ b [a, b]:=⟨by simp, fun p hp => by
 simp only [List.mem_cons, List.not_mem_nil, or_false] at hp
 rcases hp with rfl | rfl <;> omega⟩

theorem s13over_any (a b n : Int) (vx : Value) (w : World) (hx : IsS w vx a b) (la : zl a ≤ 10000) (lb : zl b ≤ 10000) (hab : a ≤ b) (h1 : 1 ≤ n) (h2 : n ≤ 1000000) :
  Calls Tryz.prog 71 #[vx, .int .i64 n] w (RetSp w (a / n) (cdv b n)):=by
 obtain ⟨A, c, B, d, rfl, hn1, hn2⟩:=hx.form
 have L0:=((Lq.mk0 w).n hn2).n hn1
 have h3:=len_le1 (x:=n.natAbs) (by omega)
 have g0:=fun W => rzof_any n W (by omega) (by omega)
 have g1:=fun v u W (h : RowZ W v [a, b]) k => s13hull_any [a, b] a b n v u W h k (by simp) (by simp) (fun p hp => by
  simp only [List.mem_cons, List.not_mem_nil, or_false] at hp
  rcases hp with rfl | rfl <;> assumption) (lst_2 hab) (mst_2 hab) (show zl n ≤ 10000 from Nat.le_trans h3 (by omega)) (by omega)
 obtain ⟨x, hx⟩:=nm9 (a / n)
 obtain ⟨y, hy⟩:=nm9 (cdv b n)
 rw [hx, hy] at g1
 rw [hx, hy]
 have H0:=Hd9 g0
 have H1:=Hd9 g1
 clear g0 g1 hx hy h3 hn1 hn2 la lb hab
 go_enter Tryz.func71, Tryz.ntmps71
 go_wp2_with fail
 have L:=((L0.varS (w.heap.size) (by simp) (ng a) A (zl a) c (ng b) B (zl b) d).varS (w.heap.size + 1) (by simp) false none 0 0 false none 0 0)
 have LB:=L
 replace L:=L.drew
 obtain ⟨c00,c01,c02,c03⟩:=L.b0.a4
 obtain ⟨f00,f01,f02,f03⟩:=L.b0.f4
 obtain ⟨c10,c11,c12,c13⟩:=L.tl.b0.a4
 go_region_held3 (fun w' => w'.cell? ⟨w.heap.size, 0, none⟩ = some (.bool (ng a)) ∧ w'.cell? ⟨w.heap.size, 1, none⟩ = some (.slice A (zl a) c) ∧ w'.cell? ⟨w.heap.size, 2, none⟩ = some (.bool (ng b)) ∧ w'.cell? ⟨w.heap.size, 3, none⟩ = some (.slice B (zl b) d)) (first | (with_reducible exact ⟨L.tl.b0.c40, L.tl.b0.c41, L.tl.b0.c42, L.tl.b0.c43⟩) | (with_reducible exact ⟨L.tl.tl.b0.c40, L.tl.tl.b0.c41, L.tl.tl.b0.c42, L.tl.tl.b0.c43⟩) | (have LN:=(LB.var (w.heap.size + 1 + 1) (by simp) 24 #[.bool (ng a), .slice A (zl a) c, .bool (ng b), .slice B (zl b) d] (plain4 _ _ _ _ _ _ _ _)).drew; with_reducible exact ⟨LN.tl.tl.b0.c40, LN.tl.tl.b0.c41, LN.tl.tl.b0.c42, LN.tl.tl.b0.c43⟩) | (have LN:=L.var _ rfl 24 #[.bool (ng a), .slice A (zl a) c, .bool (ng b), .slice B (zl b) d] (plain4 _ _ _ _ _ _ _ _); with_reducible exact ⟨LN.tl.tl.b0.c40, LN.tl.tl.b0.c41, LN.tl.tl.b0.c42, LN.tl.tl.b0.c43⟩) | (have LP:=L.swap.putS (by omega) (by first | (simp; done) | (simp; omega)) (ng x) A8 (zl x) c8 (ng y) B8 (zl y) d8; unfold put4 at LP; with_reducible exact ⟨LP.tl.tl.b0.c40, LP.tl.tl.b0.c41, LP.tl.tl.b0.c42, LP.tl.tl.b0.c43⟩)) (first | (go_at_call 47; (with_reducible refine (H0.out _).mono ?_); rintro e wh ⟨vh, rfl, iz, be⟩; (first | (replace L:=((LB.var (w.heap.size + 1 + 1) (by simp) 24 #[.bool (ng a), .slice A (zl a) c, .bool (ng b), .slice B (zl b) d] (plain4 _ _ _ _ _ _ _ _)).drew).step be) | (replace L:=(L.var _ rfl 24 #[.bool (ng a), .slice A (zl a) c, .bool (ng b), .slice B (zl b) d] (plain4 _ _ _ _ _ _ _ _)).step be) | (replace L:=L.step be)); obtain ⟨A7, c7, rfl, in9⟩:=iz.form; replace L:=L.n in9; clear be iz in9; (first | (obtain ⟨x00,x01,x02,x03⟩:=L.tl.b0.a4; obtain ⟨y00,y01,y02,y03⟩:=L.tl.b0.f4) | (obtain ⟨x00,x01,x02,x03⟩:=L.b0.a4; obtain ⟨y00,y01,y02,y03⟩:=L.b0.f4) | skip)) | (go_at_call 140; have hl9:=L.b0.lt; have LN:=L.var _ rfl 24 #[.bool (ng a), .slice A (zl a) c, .bool (ng b), .slice B (zl b) d] (plain4 _ _ _ _ _ _ _ _); (with_reducible refine (H1.out _ _ _ ?_ ?_).mono ?_); (· (refine rowZ_2 LN.b0 (LN.getN ?_) (LN.getN ?_) <;> (repeat (first | (with_reducible exact mS) | apply mT)))); (· (refine isZ_s (LN.getN ?_); (repeat (first | (with_reducible exact mS) | apply mT)))); rintro e wh ⟨vh, rfl, iq, be⟩; obtain ⟨A8, c8, B8, d8, rfl, ia, ib⟩:=iq.form; replace L:=((LN.step be).n ib).n ia; clear be iq ia ib; (try (obtain ⟨x00,x01,x02,x03⟩:=L.tl.b0.a4; obtain ⟨y00,y01,y02,y03⟩:=L.tl.b0.f4))) | (go_at_call 140; (with_reducible refine (H1.out _ _ _ ?_ ?_).mono ?_); (· (refine rowZ_2 L.b0 (L.getN ?_) (L.getN ?_) <;> (repeat (first | (with_reducible exact mS) | apply mT)))); (· (refine isZ_s (L.getN ?_); (repeat (first | (with_reducible exact mS) | apply mT)))); rintro e wh ⟨vh, rfl, iq, be⟩; obtain ⟨A8, c8, B8, d8, rfl, ia, ib⟩:=iq.form; replace L:=((L.step be).n ib).n ia; clear be iq ia ib; (try (obtain ⟨x00,x01,x02,x03⟩:=L.tl.b0.a4; obtain ⟨y00,y01,y02,y03⟩:=L.tl.b0.f4))))
 clear c00 f00 c01 f01 c02 f02 c03 f03 c10 c11 c12 c13
 all_goals
  go_wp2_with fail
  replace L:=L.swap
  have LP:=L.putS (by omega) (by first | (simp; done) | (simp; omega)) (ng x) A8 (zl x) c8 (ng y) B8 (zl y) d8
  obtain ⟨k0,k1,k2,k3⟩:=LP.b0.a4
  unfold put4 at k0 k1 k2 k3
  exact bodyPost_ret (v:=.agg #[.bool (ng x), .slice A8 (zl x) c8, .bool (ng y), .slice B8 (zl y) d8]) (by simp [results, Tryz.results71, go_sem, k0, k1, k2, k3]) rfl ⟨_, rfl, isS_n (LP.getN (by simp)) (LP.getN (by simp)), LP.below⟩
structure ExS (v f t : Nat) (y : Rat) (a b p q : Int) : Prop where
 tf : t + f = v
 tm : SpC a b v (tm t y)
 sm : SpC p q v (esm (t + 1) y)
 aa : AbP a f
 bb : AbP b f
 pp : p.natAbs + 2 ^ f ≤ 2 ^ (v + 1)
 qq : q.natAbs + 2 ^ f ≤ 2 ^ (v + 1)
theorem ExS.first (v : Nat) (y : Rat) : ExS v v 0 y (2 ^ v) (2 ^ v) (2 ^ v) (2 ^ v):=by
 have h:=SpC.of 1 v
 rw [Int.one_mul, show ((1 : Int) : Rat) = 1 from rfl] at h
 have e : ((2 : Int) ^ v).natAbs = 2 ^ v:=by rw [Int.natAbs_pow]; rfl
 have h2 : ((2 : Int) ^ v).natAbs + 2 ^ v ≤ 2 ^ (v + 1):=by rw [e, Nat.pow_succ]; omega
 refine ⟨by omega, h, ?_, Nat.le_of_eq e, Nat.le_of_eq e, h2, h2⟩
 rwa [show esm (0 + 1) y = 1 from by show (0 : Rat) + 1 = 1; grind]
def sqbits (v i : Nat) : Nat:=v + (3 * 2 ^ i - 1)
structure ExD (v i : Nat) (y : Rat) (a b : Int) : Prop where
 rs : RSp a b v ((((2 : Nat) ^ i : Nat) : Rat) * y)
 aa : AbP a (sqbits v i)
 bb : AbP b (sqbits v i)
theorem ExD.first {v : Nat} {y : Rat} {a b : Int} (h : RSp a b v y) (ha : AbP a (sqbits v 0)) (hb : AbP b (sqbits v 0)) : ExD v 0 y a b:=
 ⟨by rwa [show (((2 : Nat) ^ 0 : Nat) : Rat) * y = y from by rw [Nat.pow_zero]; exact Rat.one_mul y], ha, hb⟩
theorem s13of_any (n : Int) (j : Nat) (w : World) (h1 : -1000 ≤ n) (h2 : n ≤ 1000) (hj : j ≤ 100000) :
  Calls Tryz.prog 67 #[.int .i64 n, .int .i64 (j : Int)] w (RetSp w (n * 2 ^ j) (n * 2 ^ j)):=by
 have L0:=Lq.mk0 w
 have h3:=len_le1 (x:=n.natAbs) (by omega)
 have g1:=fun W => rzof_any n W (by omega) (by omega)
 have g2:=fun v W h => rzshl_any n v W h (show zl n ≤ 274877906944 from Nat.le_trans h3 (by omega)) j (by omega)
 obtain ⟨x, hx⟩:=nm9 (n * 2 ^ j)
 rw [hx] at g2 ⊢
 have H1:=Hd9 g1
 have H2:=Hd9 g2
 clear g1 g2 hx h3
 go_enter Tryz.func67, Tryz.ntmps67
 go_wp2_with fail
 have L:=(L0.varS (w.heap.size) (by simp) false none 0 0 false none 0 0)
 obtain ⟨c00,c01,c02,c03⟩:=L.b0.a4
 obtain ⟨f00,f01,f02,f03⟩:=L.b0.f4
 (try go_wp2_with fail)
 refine (H1.out _).mono ?_
 rintro e w1 ⟨v1, rfl, iz, be⟩
 clear c00 f00 c01 f01 c02 f02 c03 f03
 replace L:=(L.step be).z iz
 obtain ⟨A8, c8, rfl, _⟩:=iz.form
 clear be iz
 obtain ⟨c00,c01,c02,c03⟩:=L.b0.a4
 obtain ⟨f00,f01,f02,f03⟩:=L.b0.f4
 (try go_wp2_with fail)
 refine (H2.out _ _ (L.getZ (by simp))).mono ?_
 rintro e w2 ⟨v2, rfl, iz, be⟩
 clear c00 f00 c01 f01 c02 f02 c03 f03
 replace L:=L.step be
 obtain ⟨A9, c9, rfl, in9⟩:=iz.form
 replace L:=L.n in9
 clear be iz in9
 obtain ⟨c00,c01,c02,c03⟩:=L.b0.a4
 obtain ⟨f00,f01,f02,f03⟩:=L.b0.f4
 have hl9:=L.b0.lt
 have LN:=L.varZ w2.heap.size rfl (ng x) A9 (zl x) c9
 obtain ⟨n0,n1⟩:=LN.b0.a2
 go_wp2_with fail
 clear c00 f00 c01 f01 c02 f02 c03 f03
 have LP0:=L.putS (by omega) (by simp) (ng x) A9 (zl x) c9 (ng x) A9 (zl x) c9
 have LP:=LP0.varZ _ rfl (ng x) A9 (zl x) c9
 obtain ⟨k0,k1,k2,k3⟩:=LP.tl.b0.a4
 unfold put4 at k0 k1 k2 k3
 exact bodyPost_ret (v:=.agg #[.bool (ng x), .slice A9 (zl x) c9, .bool (ng x), .slice A9 (zl x) c9]) (by simp [results, Tryz.results67, go_sem, k0, k1, k2, k3]) rfl ⟨_, rfl, isS_n (LP.getN (by simp)) (LP.getN (by simp)), LP.below⟩
theorem s13wide_any (a b n : Int) (vx : Value) (w : World) (hx : IsS w vx a b) (la : zl a ≤ 10000) (lb : zl b ≤ 10000) (h1 : -1000 ≤ n) (h2 : n ≤ 1000) :
  Calls Tryz.prog 73 #[vx, .int .i64 n] w (RetSp w (a - n) (b + n)):=by
 obtain ⟨A, c, B, d, rfl, hn1, hn2⟩:=hx.form
 have L0:=((Lq.mk0 w).n hn2).n hn1
 have h3:=len_le1 (x:=n.natAbs) (by omega)
 have g0:=fun W => rzof_any n W (by omega) (by omega)
 have g1:=fun v u W h k => rzsub_any a n v u W h k (by omega) (show zl n ≤ 274877906944 from Nat.le_trans h3 (by omega))
 have g2:=fun v u W h k => rzadd_any b n v u W h k (by omega) (show zl n ≤ 274877906944 from Nat.le_trans h3 (by omega))
 obtain ⟨x, hx⟩:=nm9 (a - n)
 obtain ⟨y, hy⟩:=nm9 (b + n)
 rw [hx] at g1 ⊢
 rw [hy] at g2 ⊢
 have H0:=Hd9 g0
 have H1:=Hd9 g1
 have H2:=Hd9 g2
 clear g0 g1 g2 hx hy h3 hn1 hn2 la lb
 go_enter Tryz.func73, Tryz.ntmps73
 go_wp2_with fail
 have L:=((L0.varS (w.heap.size) (by simp) (ng a) A (zl a) c (ng b) B (zl b) d).varS (w.heap.size + 1) (by simp) false none 0 0 false none 0 0)
 replace L:=L.drew
 obtain ⟨c00,c01,c02,c03⟩:=L.b0.a4
 obtain ⟨f00,f01,f02,f03⟩:=L.b0.f4
 obtain ⟨c10,c11,c12,c13⟩:=L.tl.b0.a4
 go_region_held3 (fun w' => w'.cell? ⟨w.heap.size, 0, none⟩ = some (.bool (ng a)) ∧ w'.cell? ⟨w.heap.size, 1, none⟩ = some (.slice A (zl a) c) ∧ w'.cell? ⟨w.heap.size, 2, none⟩ = some (.bool (ng b)) ∧ w'.cell? ⟨w.heap.size, 3, none⟩ = some (.slice B (zl b) d)) (first | (with_reducible exact ⟨L.tl.b0.c40, L.tl.b0.c41, L.tl.b0.c42, L.tl.b0.c43⟩) | (have LP:=L.putS (by omega) (by first | (simp; done) | (simp; omega)) (ng x) A8 (zl x) c8 (ng y) A9 (zl y) c9; unfold put4 at LP; with_reducible exact ⟨LP.tl.b0.c40, LP.tl.b0.c41, LP.tl.b0.c42, LP.tl.b0.c43⟩) | exact ⟨L.tl.b0.c40, L.tl.b0.c41, L.tl.b0.c42, L.tl.b0.c43⟩) (first | (go_at_call 47; (with_reducible refine (H0.out _ ).mono ?_); rintro e wh ⟨vh, rfl, iz, be⟩; obtain ⟨A7, c7, rfl, in9⟩:=iz.form; replace L:=(L.step be).n in9; clear be iz in9; (try (obtain ⟨x00,x01,x02,x03⟩:=L.b0.a4; obtain ⟨y00,y01,y02,y03⟩:=L.b0.f4))) | (go_at_call 143; (with_reducible refine (H1.out _ _ _ ?_ ?_ ).mono ?_); (· (refine isZ_s (L.getN ?_); (repeat (first | (with_reducible exact mS) | apply mT)))); (· (refine isZ_s (L.getN ?_); (repeat (first | (with_reducible exact mS) | apply mT)))); rintro e wh ⟨vh, rfl, iz, be⟩; obtain ⟨A8, c8, rfl, in9⟩:=iz.form; replace L:=(L.step be).n in9; clear be iz in9; (try (obtain ⟨x00,x01,x02,x03⟩:=L.b0.a4; obtain ⟨y00,y01,y02,y03⟩:=L.b0.f4))) | (go_at_call 118; (with_reducible refine (H2.out _ _ _ ?_ ?_ ).mono ?_); (· (refine isZ_s (L.getN ?_); (repeat (first | (with_reducible exact mS) | apply mT)))); (· (refine isZ_s (L.getN ?_); (repeat (first | (with_reducible exact mS) | apply mT)))); rintro e wh ⟨vh, rfl, iz, be⟩; obtain ⟨A9, c9, rfl, in9⟩:=iz.form; replace L:=(L.step be).n in9; clear be iz in9; (try (obtain ⟨x00,x01,x02,x03⟩:=L.b0.a4; obtain ⟨y00,y01,y02,y03⟩:=L.b0.f4))))
 clear c00 f00 c01 f01 c02 f02 c03 f03 c10 c11 c12 c13
 go_wp2_with fail
 have LP:=L.putS (by omega) (by first | (simp; done) | (simp; omega)) (ng x) A8 (zl x) c8 (ng y) A9 (zl y) c9
 obtain ⟨k0,k1,k2,k3⟩:=LP.b0.a4
 unfold put4 at k0 k1 k2 k3
 exact bodyPost_ret (v:=.agg #[.bool (ng x), .slice A8 (zl x) c8, .bool (ng y), .slice A9 (zl y) c9]) (by simp [results, Tryz.results73, go_sem, k0, k1, k2, k3]) rfl ⟨_, rfl, isS_n (LP.getN (by simp)) (LP.getN (by simp)), LP.below⟩
theorem s13tiny_any (a b : Int) (vx : Value) (w : World) (hx : IsS w vx a b) (la : zl a ≤ 10000) (lb : zl b ≤ 10000) :
  Calls Tryz.prog 70 #[vx] w (RetB w (tnB a b)):=by
 obtain ⟨A, c, B, d, rfl, hn1, hn2⟩:=hx.form
 have L0:=((Lq.mk0 w).n hn2).n hn1
 have e1 : decide (a.natAbs ≤ 1) = decide (cmpI (a.natAbs : Int) ((1 : Nat) : Int) ≤ 0):=by
  rw [decide_eq_decide, cmpI_le]
  omega
 have e2 : decide (b.natAbs ≤ 1) = decide (cmpI (b.natAbs : Int) ((1 : Nat) : Int) ≤ 0):=by
  rw [decide_eq_decide, cmpI_le]
  omega
 have g0:=fun W => rof_any 1 W (by omega)
 have g1:=fun v u W h k => rcmpB_any a.natAbs 1 v u W h k
 have g2:=fun v u W h k => rcmpB_any b.natAbs 1 v u W h k
 unfold tnB
 rw [e1, e2]
 obtain ⟨x, hx⟩:=nm9 (cmpI (a.natAbs : Int) ((1 : Nat) : Int))
 obtain ⟨y, hy⟩:=nm9 (cmpI (b.natAbs : Int) ((1 : Nat) : Int))
 rw [hx] at g1 ⊢
 rw [hy] at g2 ⊢
 have H0:=Hd9 g0
 have H1:=Hd9 g1
 have H2:=Hd9 g2
 clear g0 g1 g2 hx hy e1 e2 hn1 hn2 la lb
 cases t1 : decide (x ≤ 0)
 ·have n1 : ¬ x ≤ 0:=of_decide_eq_false t1
  rw [Bool.false_and]
  go_enter Tryz.func70, Tryz.ntmps70
  go_wp2_with fail
  have L:=(L0.varS (w.heap.size) (by simp) (ng a) A (zl a) c (ng b) B (zl b) d)
  obtain ⟨c00,c01,c02,c03⟩:=L.b0.a4
  (try go_wp2_with fail)
  refine (H0.out _).mono ?_
  rintro e w1 ⟨vv, rfl, o⟩
  clear c00 c01 c02 c03
  replace L:=(L.step o.below).n o.isN
  clear o
  obtain ⟨c00,c01,c02,c03⟩:=L.b0.a4
  (try go_wp2_with fail)
  refine (H1.out _ _ _ (L.getN (by simp)) (L.getN (by simp))).mono ?_
  rintro e w2 ⟨rfl, be⟩
  clear c00 c01 c02 c03
  replace L:=L.step be
  clear be
  obtain ⟨c00,c01,c02,c03⟩:=L.b0.a4
  (try go_wp2_with fail)
  go_ret
  exact ⟨rfl, L.below⟩
 ·have n1 : x ≤ 0:=of_decide_eq_true t1
  rw [Bool.true_and]
  obtain ⟨z, hz⟩:=nm9 (decide (y ≤ 0))
  rw [hz]
  go_enter Tryz.func70, Tryz.ntmps70
  go_wp2_with fail
  have L:=(L0.varS (w.heap.size) (by simp) (ng a) A (zl a) c (ng b) B (zl b) d)
  obtain ⟨c00,c01,c02,c03⟩:=L.b0.a4
  (try go_wp2_with fail)
  refine (H0.out _).mono ?_
  rintro e w1 ⟨vv, rfl, o⟩
  clear c00 c01 c02 c03
  replace L:=(L.step o.below).n o.isN
  clear o
  obtain ⟨c00,c01,c02,c03⟩:=L.b0.a4
  (try go_wp2_with fail)
  refine (H1.out _ _ _ (L.getN (by simp)) (L.getN (by simp))).mono ?_
  rintro e w2 ⟨rfl, be⟩
  clear c00 c01 c02 c03
  replace L:=L.step be
  clear be
  obtain ⟨c00,c01,c02,c03⟩:=L.b0.a4
  (try go_wp2_with fail)
  refine (H2.out _ _ _ (L.getN (by simp)) (L.getN (by simp))).mono ?_
  rintro e w3 ⟨rfl, be⟩
  clear c00 c01 c02 c03
  replace L:=L.step be
  clear be
  (try go_wp2_with fail)
  go_ret
  exact ⟨rfl, L.below⟩

theorem s13out_any (a b : Int) (v k j : Nat) (vx : Value) (w : World) (hx : IsS w vx a b) (la : zl a ≤ 10000) (lb : zl b ≤ 10000) (hk : k ≤ 10000) (hj : v = k + j) (hj2 : j ≤ 10000) :
  Calls Tryz.prog 75 #[vx, .int .i64 (v : Int), .int .i64 (k : Int)] w (RetI6 w (mkM (a / 2 ^ j) (-(k : Int))) (mkE (a / 2 ^ j) (-(k : Int))) (mkM (cdv b (2 ^ j)) (-(k : Int))) (mkE (cdv b (2 ^ j)) (-(k : Int)))):=by
 obtain ⟨A, c, B, d, rfl, hn1, hn2⟩:=hx.form
 have L0:=((Lq.mk0 w).n hn2).n hn1
 have w1 : IntKind.i64.wrap ((v : Int) - (k : Int)) = (j : Int):=by rw [IntKind.wrap_i64]; omega
 have w2 : IntKind.i64.wrap (-(k : Int)) = -(k : Int):=by rw [IntKind.wrap_i64]; omega
 have p2:=pow2_pos j
 have z1:=zl_floor a p2
 have z2:=zl_floor (-b) p2
 have z3:=zl_neg b
 unfold cdv
 have g1:=fun x W h => rzshr_any a x W h (by omega) j (by omega)
 have g2:=fun x W h => rmake8_any (a / 2 ^ j) (-(k : Int)) x W h (by omega)
 have g3:=fun x W h => rzneg_any b x W h (by omega)
 have g4:=fun x W h => rzshr_any (-b) x W h (by omega) j (by omega)
 have g5:=fun x W h => rzneg_any (-b / 2 ^ j) x W h (by omega)
 have z4:=zl_neg (-b / 2 ^ j)
 have g6:=fun x W h => rmake8_any (-(-b / 2 ^ j)) (-(k : Int)) x W h (by omega)
 obtain ⟨p, hp⟩:=nm9 (a / 2 ^ j)
 rw [hp] at g1 g2 ⊢
 obtain ⟨q, hq⟩:=nm9 (-b)
 rw [hq] at g3 g4 g5 g6 ⊢
 obtain ⟨r, hr⟩:=nm9 (q / 2 ^ j)
 rw [hr] at g4 g5 g6 ⊢
 obtain ⟨s, hs⟩:=nm9 (-r)
 rw [hs] at g5 g6 ⊢
 generalize mkR p (-(k : Int)) = R at *
 generalize mkR s (-(k : Int)) = R2 at *
 obtain ⟨M, hM⟩:=nm9 (mkM p (-(k : Int)))
 rw [hM] at g2 ⊢
 obtain ⟨E, hE⟩:=nm9 (mkE p (-(k : Int)))
 rw [hE] at g2 ⊢
 obtain ⟨M2, hM2⟩:=nm9 (mkM s (-(k : Int)))
 rw [hM2] at g6 ⊢
 obtain ⟨E2, hE2⟩:=nm9 (mkE s (-(k : Int)))
 rw [hE2] at g6 ⊢
 have G1:=Hd9 g1
 have G2:=Hd9 g2
 have G3:=Hd9 g3
 have G4:=Hd9 g4
 have G5:=Hd9 g5
 have G6:=Hd9 g6
 clear g1 g2 g3 g4 g5 g6 z1 z2 z3 z4 p2 hp hq hr hs hM hE hM2 hE2 hn1 hn2 hj la lb
 go_enter Tryz.func75, Tryz.ntmps75
 go_wp2_with fail
 have L:=((L0.varS (w.heap.size) (by simp) (ng a) A (zl a) c (ng b) B (zl b) d).varI (w.heap.size + 1) (by simp) false none 0 0 0 false none 0 0 0)
 obtain ⟨c10,c11,c12,c13⟩:=L.tl.b0.a4
 (try go_wp2_with fail)
 refine (G1.out _ _ (isZ_s (z:=a) (s:=.slice A (zl a) c) (L.getN (by simp)))).mono ?_
 rintro e w1 ⟨vv, rfl, iz, be⟩
 clear c10 c11 c12 c13
 obtain ⟨A1, c1, rfl, in9⟩:=iz.form
 replace L:=(L.step be).n in9
 clear be iz in9
 go_wp2_with fail
 refine (G2.out _ _ (isZ_s (z:=p) (s:=.slice A1 (zl p) c1) (L.getN (by simp)))).mono ?_
 rintro e w2 ⟨vv, rfl, id, be⟩
 obtain ⟨A2, c2, rfl, _, in9⟩:=id.form
 replace L:=(L.step be).n in9
 clear be id in9
 have hl0:=L.b0.lt
 replace L:=L.varD w2.heap.size rfl (ng M) A2 (zl M) c2 E
 obtain ⟨c00,c01,c02⟩:=L.b0.a3
 obtain ⟨c20,c21,c22,c23⟩:=L.tl.tl.b0.a4
 go_wp2_with fail
 clear c00 c01 c02 c20 c21 c22 c23
 obtain ⟨g1, hg1⟩:=nm9 (w2.heap.size)
 rw [hg1] at L hl0 ⊢
 clear hg1
 refine (G3.out _ _ (isZ_s (z:=b) (s:=.slice B (zl b) d) (L.getN (by simp)))).mono ?_
 rintro e w3 ⟨vv, rfl, iz, be⟩
 obtain ⟨A3, c3, rfl, in9⟩:=iz.form
 replace L:=(L.step be).n in9
 clear be iz in9
 go_wp2_with fail
 refine (G4.out _ _ (isZ_s (z:=q) (s:=.slice A3 (zl q) c3) (L.getN (by simp)))).mono ?_
 rintro e w4 ⟨vv, rfl, iz, be⟩
 obtain ⟨A4, c4, rfl, in9⟩:=iz.form
 replace L:=(L.step be).n in9
 clear be iz in9
 go_wp2_with fail
 refine (G5.out _ _ (isZ_s (z:=r) (s:=.slice A4 (zl r) c4) (L.getN (by simp)))).mono ?_
 rintro e w5 ⟨vv, rfl, iz, be⟩
 obtain ⟨A5, c5, rfl, in9⟩:=iz.form
 replace L:=(L.step be).n in9
 clear be iz in9
 go_wp2_with fail
 refine (G6.out _ _ (isZ_s (z:=s) (s:=.slice A5 (zl s) c5) (L.getN (by simp)))).mono ?_
 rintro e w6 ⟨vv, rfl, id, be⟩
 obtain ⟨A6, c6, rfl, _, in9⟩:=id.form
 replace L:=((L.step be).n in9).swap
 clear be id in9
 have hlr:=L.b0.lt
 have hls:=L.tl.b0.lt
 obtain ⟨c00,c01,c02,c03,c04,c05⟩:=L.b0.a6
 obtain ⟨f00,f01,f02,f03,f04,f05⟩:=L.b0.f6
 have LN:=L.varD w6.heap.size rfl (ng M2) A6 (zl M2) c6 E2
 have n0:=LN.b0.c30
 have m0:=LN.tl.tl.b0.c30
 have n1:=LN.b0.c31
 have m1:=LN.tl.tl.b0.c31
 have n2:=LN.b0.c32
 have m2:=LN.tl.tl.b0.c32
 go_wp2_with fail
 clear c00 f00 c01 f01 c02 f02 c03 f03 c04 f04 c05 f05
 have LP0:=L.putI (by omega) (by first | (simp; done) | (simp; omega)) (ng M) A2 (zl M) c2 E (ng M2) A6 (zl M2) c6 E2
 have LP:=LP0.varD _ rfl (ng M2) A6 (zl M2) c6 E2
 obtain ⟨k0,k1,k2,k3,k4,k5⟩:=LP.tl.b0.a6
 unfold put6 at k0 k1 k2 k3 k4 k5
 exact bodyPost_ret (v:=.agg #[.bool (ng M), .slice A2 (zl M) c2, .int .i64 E, .bool (ng M2), .slice A6 (zl M2) c6, .int .i64 E2]) (by simp [results, Tryz.results75, go_sem, k0, k1, k2, k3, k4, k5]) rfl ⟨_, rfl, isI_n (LP.getN (by simp)) (LP.getN (by simp)), LP.below⟩
theorem s13touches_any (m e n f m2 e2 n2 f2 : Int) (vx vy : Value) (w : World) (hx : IsI w vx m e n f) (hy : IsI w vy m2 e2 n2 f2) (lm : zl m ≤ 1000) (ln : zl n ≤ 1000) (lm2 : zl m2 ≤ 1000) (ln2 : zl n2 ≤ 1000) (he : -20000 ≤ e ∧ e ≤ 20000) (hf : -20000 ≤ f ∧ f ≤ 20000) (he2 : -20000 ≤ e2 ∧ e2 ≤ 20000) (hf2 : -20000 ≤ f2 ∧ f2 ≤ 20000) :
  Calls Tryz.prog 37 #[vx, vy] w (RetB w (icm m e n f m2 e2 n2 f2 == 0)):=by
 obtain ⟨A, c, B, d, rfl, hn1, hn2⟩:=hx.form
 obtain ⟨A2, k2, B2, d2, rfl, hn3, hn4⟩:=hy.form
 have L0:=((((Lq.mk0 w).n hn4).n hn3).n hn2).n hn1
 have h1:=fun v u W h1 h2 => r10cmp_any m e n f m2 e2 n2 f2 v u W h1 h2 (by omega) (by omega) (by omega) (by omega) (by omega) (by omega) (by omega) (by omega)
 obtain ⟨x, hx9⟩:=nm9 (icm m e n f m2 e2 n2 f2)
 rw [hx9] at h1 ⊢
 have H1:=Hd9 h1
 clear h1 hx9 hn1 hn2 hn3 hn4 hx hy
 go_enter Tryz.func37, Tryz.ntmps37
 go_wp2_with fail
 have L:=((L0.varI (w.heap.size) (by simp) (ng m) A (zl m) c e (ng n) B (zl n) d f).varI (w.heap.size + 1) (by simp) (ng m2) A2 (zl m2) k2 e2 (ng n2) B2 (zl n2) d2 f2)
 obtain ⟨c00,c01,c02,c03,c04,c05⟩:=L.b0.a6
 obtain ⟨c10,c11,c12,c13,c14,c15⟩:=L.tl.b0.a6
 clear c00 c01 c02 c03 c04 c05 c10 c11 c12 c13 c14 c15
 obtain ⟨c00,c01,c02,c03,c04,c05⟩:=L.b0.a6
 obtain ⟨c10,c11,c12,c13,c14,c15⟩:=L.tl.b0.a6
 (try go_wp2_with fail)
 refine (H1.out _ _ _ (isI_n (L.getN (by simp)) (L.getN (by simp))) (isI_n (L.getN (by simp)) (L.getN (by simp)))).mono ?_
 rintro e w1 ⟨rfl, be⟩
 clear c00 c01 c02 c03 c04 c05 c10 c11 c12 c13 c14 c15
 replace L:=L.step be
 clear be
 (try go_wp2_with fail)
 (try go_ret)
 exact ⟨rfl, L.below⟩

theorem small14 {m e n f : Int} (lm : zl m ≤ 60) (ln : zl n ≤ 60) (he : -8000 ≤ e ∧ e ≤ 3000) (hf : -8000 ≤ f ∧ f ≤ 3000) (hle : dcm m e n f ≤ 0) (tm : topZ m e ≤ 2048) (tn : topZ n f ≤ 2048) : smallB m e n f = true:=by
 have p8 : permB 8192 = true:=by decide
 unfold smallB onB
 rw [p8, decide_eq_true hle, decide_eq_true tm, decide_eq_true tn, decide_eq_true (show -8192 ≤ e by omega), decide_eq_true (show -8192 ≤ f by omega)]
 simp


theorem of16_any (a b : Int) (w : World) (h1 : -1000 ≤ a ∧ a ≤ 1000) (h2 : -1000 ≤ b ∧ b ≤ 1000) :
  Calls Tryz.prog 27 #[.int .i64 a, .int .i64 b] w (RetI6 w (mkM a 0) (mkE a 0) (mkM b 0) (mkE b 0)):=by
 have HA:=Hd9 (fun W => rof8_any a W (by omega) (by omega))
 have HB:=Hd9 (fun W => rof8_any b W (by omega) (by omega))
 generalize mkM a 0 = m at *
 generalize mkE a 0 = e at *
 generalize mkM b 0 = n at *
 generalize mkE b 0 = f at *
 clear h1 h2
 go_enter Tryz.func27, Tryz.ntmps27
 go_wp2_with fail
 have L:=((Lq.mk0 w).varI (w.heap.size) (by simp) false none 0 0 0 false none 0 0 0)
 obtain ⟨c00,c01,c02,c03,c04,c05⟩:=L.b0.a6
 obtain ⟨f00,f01,f02,f03,f04,f05⟩:=L.b0.f6
 (try go_wp2_with fail)
 refine (HA.out _).mono ?_
 rintro e w1 ⟨v1, rfl, id, be⟩
 clear c00 f00 c01 f01 c02 f02 c03 f03 c04 f04 c05 f05
 obtain ⟨A, c, rfl, _, in9⟩:=id.form
 replace L:=(L.step be).n in9
 clear be id in9
 obtain ⟨c00,c01,c02,c03,c04,c05⟩:=L.b0.a6
 obtain ⟨f00,f01,f02,f03,f04,f05⟩:=L.b0.f6
 (try go_wp2_with fail)
 refine (HB.out _).mono ?_
 rintro e w2 ⟨v2, rfl, id, be⟩
 clear c00 f00 c01 f01 c02 f02 c03 f03 c04 f04 c05 f05
 obtain ⟨B, d, rfl, _, in9⟩:=id.form
 replace L:=(L.step be).n in9
 clear be id in9
 obtain ⟨c00,c01,c02,c03,c04,c05⟩:=L.b0.a6
 obtain ⟨f00,f01,f02,f03,f04,f05⟩:=L.b0.f6
 (try go_wp2_with fail)
 have LP:=L.putI (by omega) (by first | (simp; done) | (simp; omega)) (ng m) A (zl m) c e (ng n) B (zl n) d f
 obtain ⟨k0,k1,k2,k3,k4,k5⟩:=LP.b0.a6
 unfold put6 at k0 k1 k2 k3 k4 k5
 exact bodyPost_ret (v:=.agg #[.bool (ng m), .slice A (zl m) c, .int .i64 e, .bool (ng n), .slice B (zl n) d, .int .i64 f]) (by simp [results, Tryz.results27, go_sem, k0, k1, k2, k3, k4, k5]) rfl ⟨_, rfl, isI_n (LP.getN (by simp)) (LP.getN (by simp)), LP.below⟩
theorem icm_meet16 {m e n f m2 e2 n2 f2 : Int} (h1 : dq m2 e2 ≤ dq n f) (h2 : dq m e ≤ dq n2 f2) : icm m e n f m2 e2 n2 f2 = 0:=by
 have h3 : dcm m2 e2 n f ≤ 0:=(dcm_le _ _ _ _).2 h1
 have h4 : dcm m e n2 f2 ≤ 0:=(dcm_le _ _ _ _).2 h2
 have h5:=dcm_swap m2 e2 n f
 unfold icm
 (repeat' split) <;> omega
theorem top_ub16 {m e : Int} {z : Nat} (hz : zl m ≤ z) (he : e ≤ 1000) (hb : 32 * (z : Int) + 1000 ≤ 2048) : topZ m e ≤ 2048:=by
 have h:=blen_le_len m.natAbs
 have e1 : zl m = len m.natAbs:=rfl
 unfold topZ
 split <;> omega
theorem small16 {m e n f : Int} (zm : zl m ≤ 32) (zn : zl n ≤ 32) (he : -8000 ≤ e ∧ e ≤ 1000) (hf : -8000 ≤ f ∧ f ≤ 1000) (hle : dcm m e n f ≤ 0) : smallB m e n f = true:=
 small14 (by omega) (by omega) (by omega) (by omega) hle (top_ub16 zm (by omega) (by omega)) (top_ub16 zn (by omega) (by omega))
theorem gr16 {T : Int} {k j : Nat} (h : AbP T j) (hj : j ≤ 500) (hk : k ≤ 300) : zl (mkM T (-(k : Int))) ≤ j / 32 + 1 ∧ (-(k : Int) ≤ mkE T (-(k : Int)) ∧ mkE T (-(k : Int)) ≤ 532) ∧ Dv (mkM T (-(k : Int))) (mkE T (-(k : Int))) ∧ dq (mkM T (-(k : Int))) (mkE T (-(k : Int))) = dq T (-(k : Int)):=by
 obtain ⟨a1, a2, a3, a4, a5⟩:=nx (x := -(k : Int)) h (by omega) (by omega)
 exact ⟨by omega, by omega, a4, a5⟩
theorem awake16_any (w : World) (hT : Tab w) :
  Calls Tryz.prog 19 #[] w (RetB w true):=by
 have HT:=Hd9 (fun W (hW : Below w.heap.size w W) => hT.mono hW)
 have z0 : zl 0 ≤ 1:=len_le1 (by decide)
 have hd0 : dq 0 0 = 0:=dq_zero 0
 have dv0 : Dv 0 0:=Or.inl ⟨rfl, rfl⟩
 have g1:=fun W => of16_any 0 0 W (by omega) (by omega)
 rw [nf00.1, nf00.2] at g1
 have g2:=fun v W h (hW : Below w.heap.size w W) => tatan_yes 0 0 0 0 4 v W h (by omega) (by omega) (by omega) (by omega) dv0 dv0 (by decide +kernel) (by omega) (hT.mono hW)
 have g4:=fun W => trecip_arg 1 5 W (Or.inr (Or.inl (by omega)))
 have g5:=fun W => (show Calls Tryz.prog 34 #[.int .i64 0] W (RetP W 0 1) from rofn7_any 0 W (by omega) (by omega))
 have G1:=Hd9 g1
 have G2:=Hd9 g2
 have G4:=Hd9 g4
 have G5:=Hd9 g5
 clear g1 g2 g4 g5 hT dv0
 go_enter Tryz.func19, Tryz.ntmps19
 go_wp2_with fail
 have L:=Lq.mk0 w
 (try go_wp2_with fail)
 refine (G1.out _).mono ?_
 rintro e w1 ⟨vv, rfl, ii, be⟩
 obtain ⟨A1, c1, B1, d1, rfl, ia, ib⟩:=ii.form
 replace L:=((L.step be).n ib).n ia
 clear be ii ia ib
 (try go_wp2_with fail)
 refine (G2.out _ _ (isI_n (m:=0) (e:=0) (n:=0) (f:=0) (s:=.slice A1 (zl 0) c1) (t:=.slice B1 (zl 0) d1) (L.getN (by simp)) (L.getN (by simp))) L.below).mono ?_
 intro e9 w2 hr9
 obtain ⟨a, b, ⟨ea, eb, za, zb⟩, vv, rfl, ii, be⟩:=hr9
 obtain ⟨A2, c2, B2, d2, rfl, ia, ib⟩:=ii.form
 replace L:=((L.step be).n ib).n ia
 clear be ii ia ib
 obtain ⟨x1, x2, x3, x5⟩:=gr16 (k:=4) za (by omega) (by omega)
 obtain ⟨y1, y2, y3, y5⟩:=gr16 (k:=4) zb (by omega) (by omega)
 rw [hd0] at ea eb
 have zU : AtU 0 0:=Or.inr (Or.inl ⟨by decide +kernel, by decide +kernel⟩)
 have zL : AtL 0 0:=Or.inr (Or.inl ⟨rfl, Rat.le_refl⟩)
 have q1:=at_le ea.1 zU Rat.le_refl
 have q2:=at_le zL eb.2 Rat.le_refl
 have g6 : ∀ v u W, IsI W v (mkM a (-((4 : Nat) : Int))) (mkE a (-((4 : Nat) : Int))) (mkM b (-((4 : Nat) : Int))) (mkE b (-((4 : Nat) : Int))) → IsP W u 0 1 → Calls Tryz.prog 76 #[v, u] W (RetB W true):=fun v u W h k9 => by
  have s:=r10has_any _ _ _ _ 0 1 v u W h k9 (by omega) (by omega) (by omega) (by omega) (Nat.le_trans z0 (by omega)) (Nat.le_trans (len_le1 (by decide)) (by omega))
  rwa [(hasB_iff _ _ _ _ _ _ (by omega)).2 ⟨by rw [x5]; exact q1, by rw [y5]; exact q2⟩] at s
 obtain ⟨M, hM⟩:=nm9 (mkM a (-((4 : Nat) : Int)))
 obtain ⟨E, hE⟩:=nm9 (mkE a (-((4 : Nat) : Int)))
 obtain ⟨N, hN⟩:=nm9 (mkM b (-((4 : Nat) : Int)))
 obtain ⟨G, hG⟩:=nm9 (mkE b (-((4 : Nat) : Int)))
 rw [hM, hE, hN, hG] at g6
 rw [hM, hN] at L ⊢
 rw [hE, hG]
 have G6:=Hd9 g6
 clear g6 x1 x2 x3 x5 y1 y2 y3 y5 q1 q2 zU zL ea eb za zb hM hE hN hG G1 G2
 replace L:=L.varI w2.heap.size rfl (ng M) A2 (zl M) c2 E (ng N) B2 (zl N) d2 G
 obtain ⟨cel00,cel01,cel02,cel03,cel04,cel05⟩:=L.b0.a6
 go_wp2_with fail
 clear cel00 cel01 cel02 cel03 cel04 cel05
 obtain ⟨b1, hb1⟩:=nm9 (w2.heap.size)
 rw [hb1] at L ⊢
 clear hb1
 refine (G4.out _).mono ?_
 rintro e w3 ⟨vv, rfl, ii, be⟩
 obtain ⟨A4, c4, B4, d4, rfl, ia, ib⟩:=ii.form
 replace L:=((L.step be).n ib).n ia
 clear be ii ia ib
 have hl2:=L.b0.lt
 replace L:=L.varI w3.heap.size rfl (ng 0) A4 (zl 0) c4 0 (ng 0) B4 (zl 0) d4 0
 obtain ⟨cel00,cel01,cel02,cel03,cel04,cel05⟩:=L.b0.a6
 go_wp2_with fail
 clear cel00 cel01 cel02 cel03 cel04 cel05
 obtain ⟨b2, hb2⟩:=nm9 (w3.heap.size)
 rw [hb2] at L hl2 ⊢
 clear hb2
 replace L:=L.drew
 obtain ⟨cel10,cel11,cel12,cel13,cel14,cel15⟩:=L.tl.b0.a6
 go_region_held3 (fun w' => w'.cell? ⟨b1, 0, none⟩ = some (.bool (ng M)) ∧ w'.cell? ⟨b1, 1, none⟩ = some (.slice A2 (zl M) c2) ∧ w'.cell? ⟨b1, 2, none⟩ = some (.int .i64 E) ∧ w'.cell? ⟨b1, 3, none⟩ = some (.bool (ng N)) ∧ w'.cell? ⟨b1, 4, none⟩ = some (.slice B2 (zl N) d2) ∧ w'.cell? ⟨b1, 5, none⟩ = some (.int .i64 G)) (first | (with_reducible exact ⟨L.tl.b0.c60, L.tl.b0.c61, L.tl.b0.c62, L.tl.b0.c63, L.tl.b0.c64, L.tl.b0.c65⟩) | exact ⟨L.tl.b0.c60, L.tl.b0.c61, L.tl.b0.c62, L.tl.b0.c63, L.tl.b0.c64, L.tl.b0.c65⟩) (first | (go_at_call 34; (with_reducible refine (G5.out _ ).mono ?_); rintro e wh ⟨vh, rfl, iq, be⟩; replace L:=(L.step be).q iq; clear be iq) | (go_at_call 76; (with_reducible refine (G6.out _ _ _ ?_ ?_ ).mono ?_); (· (refine isI_n (L.getN ?_) (L.getN ?_); all_goals (repeat (first | (with_reducible exact mS) | apply mT)))); (· (refine L.getQ ?_; (repeat (first | (with_reducible exact mS) | apply mT)))); rintro e wh ⟨rfl, be⟩; replace L:=L.step be; clear be))
 (try go_wp2_with fail)
 (try go_ret)
 exact ⟨rfl, L.below⟩

theorem Lq.sub {w0 w : World} {ns : List (Value × Nat)} {zs : List (Value × Int)} {qs : List (Value × Int × Nat)} {bs : List (Nat × TypeId × Array Value)} (h : Lq w0 w ns zs qs bs) {ns' : List (Value × Nat)} {bs' : List (Nat × TypeId × Array Value)} (h1 : ∀ p ∈ ns', p ∈ ns) (h2 : ∀ b ∈ bs', b ∈ bs) : Lq w0 w ns' [] [] bs':=
 ⟨h.below, fun x hx => h.ns x (h1 x hx), fun _ x => (by cases x), fun _ x => (by cases x), fun x hx => h.bs x (h2 x hx)⟩

theorem s13atan_any (n : Int) (v : Nat) (w : World) (hn : 2 ≤ n) (hn2 : n ≤ 1000000) (hv : v ≤ 10000) :
  Calls Tryz.prog 104 #[.int .i64 n, .int .i64 (v : Int)] w (RetSp w (atL n v) (atH n v)):=by
 have HN:=Hd9 hn
 have HV:=Hd9 hv
 have g1:=fun W => s13of_any 1 v W (by omega) (by omega) (by omega)
 have g0:=fun W => s13of_any 0 v W (by omega) (by omega) (by omega)
 rw [Int.one_mul] at g1
 rw [Int.zero_mul] at g0
 have t0:=tm_one v
 have q0:=at_first hn v
 have z0:=t0.abs.1.zl
 have g2:=fun x W h => s13over_any (2 ^ v) (2 ^ v) n x W h (by omega) (by omega) (Int.le_refl _) (by omega) (by omega)
 have HXY:=Hd9 (show atL n v = (atR n v 0 (2 ^ v / n) (cdv (2 ^ v) n) 0 0).1 - 2 ∧ atH n v = (atR n v 0 (2 ^ v / n) (cdv (2 ^ v) n) 0 0).2 + 2 from ⟨rfl, rfl⟩)
 generalize atL n v = X at *
 generalize atH n v = Y at *
 generalize (2 : Int) ^ v = P at *
 obtain ⟨a, ha⟩:=nm9 (P / n)
 obtain ⟨b, hb⟩:=nm9 (cdv P n)
 rw [ha, hb] at g2 q0 HXY
 obtain ⟨R, hR⟩:=nm9 (atR n v 0 a b 0 0)
 rw [hR] at HXY
 have HR:=Hd9 (And.intro q0 hR)
 have G0:=Hd9 g0
 have G1:=Hd9 g1
 have G2:=Hd9 g2
 clear g0 g1 g2 hR q0 t0 z0 ha hb
 go_enter Tryz.func104, Tryz.ntmps104
 have L:=((Lq.mk0 w).varS (w.heap.size) (by simp) false none 0 0 false none 0 0)
 (try go_wp2_with fail)
 obtain ⟨V, hV⟩:=nm9 (w.alloc (.cells #[.bool false, .slice none 0 0, .bool false, .slice none 0 0] 79))
 rw [hV] at L ⊢
 clear hV
 have hwV:=L.b0.lt
 have LL:=Hd9 L
 clear L
 have L:=Lq.mk0 V
 refine (G1.out _).mono ?_
 rintro e w1 ⟨vv, rfl, iq, be⟩
 obtain ⟨A5, c5, B5, d5, rfl, ia, ib⟩:=iq.form
 replace L:=((L.step be).n ib).n ia
 clear be iq ia ib
 go_wp2_with fail
 refine (G2.out _ _ (isS_n (a:=P) (b:=P) (s:=.slice A5 (zl P) c5) (t:=.slice B5 (zl P) d5) (L.getN (by simp)) (L.getN (by simp)))).mono ?_
 rintro e w2 ⟨vv, rfl, iq, be⟩
 obtain ⟨A1, c1, B1, d1, rfl, ia, ib⟩:=iq.form
 replace L:=((L.step be).n ib).n ia
 clear be iq ia ib
 have hVt : V.heap.size ≤ w2.heap.size:=L.below.size
 replace L:=L.varS w2.heap.size rfl (ng a) A1 (zl a) c1 (ng b) B1 (zl b) d1
 obtain ⟨c00,c01,c02,c03⟩:=L.b0.a4
 go_wp2_with fail
 clear c00 c01 c02 c03
 obtain ⟨gt, hgt⟩:=nm9 (w2.heap.size)
 rw [hgt] at L hVt ⊢
 clear hgt
 have hlt0:=L.b0.lt
 refine (G0.out _).mono ?_
 rintro e w3 ⟨vv, rfl, iq, be⟩
 obtain ⟨A2, c2, B2, d2, rfl, ia, ib⟩:=iq.form
 replace L:=((L.step be).n ib).n ia
 clear be iq ia ib
 have hlt1:=L.b0.lt
 replace L:=L.varS w3.heap.size rfl (ng 0) A2 (zl 0) c2 (ng 0) B2 (zl 0) d2
 obtain ⟨c00,c01,c02,c03⟩:=L.b0.a4
 obtain ⟨c10,c11,c12,c13⟩:=L.tl.b0.a4
 go_wp2_with fail
 clear c00 c01 c02 c03 c10 c11 c12 c13
 obtain ⟨gs, hgs⟩:=nm9 (w3.heap.size)
 rw [hgs] at L hlt1 ⊢
 clear hgs
 replace L:=L.swap
 clear hlt0 G0 G1 G2
 go_loopw [7] (fun i wr => ∃ (f k : Nat) (a b s u : Int) (A1 B1 A2 B2 : Option Addr) (c1 d1 c2 d2 : Nat), i = .int .i64 (k : Int) ∧ Lq V wr [(.slice A1 (zl a) c1, a.natAbs), (.slice B1 (zl b) d1, b.natAbs), (.slice A2 (zl s) c2, s.natAbs), (.slice B2 (zl u) d2, u.natAbs)] [] [] [(gt, 79, #[.bool (ng a), .slice A1 (zl a) c1, .bool (ng b), .slice B1 (zl b) d1]), (gs, 79, #[.bool (ng s), .slice A2 (zl s) c2, .bool (ng u), .slice B2 (zl u) d2])] ∧ Hid (SeI v f k a b s u ∧ atR n f k a b s u = R)) (fun i _ => v + 4 - (intOf i).toNat)
 case atStart => exact ⟨v, 0, a, b, 0, 0, A1, B1, A2, B2, c1, d1, c2, d2, by go_num, L.sub (by simp) (by simp), HR⟩
 case round =>
  clear L HR
  obtain ⟨f, k, a, b, s, u, A1, B1, A2, B2, c1, d1, c2, d2, rfl, L, HR⟩:=hrel
  obtain ⟨sa, sb, ss, su, hab, hk⟩:=HR.out.1.sizes HV.out
  have hfk:=HR.out.1.2.1
  have tn0:=fun x W h => s13tiny_any a b x W h (by omega) (by omega)
  have hv:=HV.out
  have hn0:=HN.out
  have hl1:=L.b0.lt
  have hl2:=L.tl.b0.lt
  cases ht : tnB a b
  ·rw [ht] at tn0
   have TN:=Hd9 tn0
   obtain ⟨g, rfl, t1, t2, h1, h2⟩:=at_step HN.out HR.out.1 ht
   have x1:=t1.abs.1.zl
   have x2:=t1.abs.2.zl
   have x3:=t2.abs.1.zl
   have x4:=t2.abs.2.zl
   have x5:=t1.2.1
   have x6:=t2.2.1
   have o1:=fun x W h => s13over_any a b (2 * (k : Int) + 1) x W h (by omega) (by omega) hab (by omega) (by omega)
   have o2:=fun x W h => s13over_any a b n x W h (by omega) (by omega) hab (by omega) (by omega)
   have o3:=fun x W h => s13over_any (a / n) (cdv b n) n x W h (by omega) (by omega) x5 (by omega) (by omega)
   have o4:=fun x W h => s13neg_any (a / (2 * (k : Int) + 1)) (cdv b (2 * (k : Int) + 1)) x W h (by omega) (by omega)
   have y3:=zl_neg (a / (2 * (k : Int) + 1))
   have y4:=zl_neg (cdv b (2 * (k : Int) + 1))
   have o5:=fun x y W h j => s13add_any s u (a / (2 * (k : Int) + 1)) (cdv b (2 * (k : Int) + 1)) x y W h j (by omega) (by omega) (by omega) (by omega)
   have o6:=fun x y W h j => s13add_any s u (-(cdv b (2 * (k : Int) + 1))) (-(a / (2 * (k : Int) + 1))) x y W h j (by omega) (by omega) (by omega) (by omega)
   have hkv : k ≤ v + 2:=by omega
   have hE:=HR.out.2
   obtain ⟨q, hq⟩ : ∃ q : Int, 2 * (k : Int) + 1 = q:=⟨_, rfl⟩
   have w1 : IntKind.i64.wrap (2 * (k : Int)) = 2 * (k : Int):=by rw [IntKind.wrap_i64]; omega
   have w2 : IntKind.i64.wrap (2 * (k : Int) + 1) = q:=by rw [IntKind.wrap_i64]; omega
   have w3 : IntKind.i64.wrap ((k : Int) + 1) = (k : Int) + 1:=by rw [IntKind.wrap_i64]; omega
   rw [hq] at o1 o4 o5 o6 h1 h2
   obtain ⟨p, hp⟩:=nm9 (a / q)
   rw [hp] at o1 o4 o5 o6 h1 h2
   obtain ⟨r, hr⟩:=nm9 (cdv b q)
   rw [hr] at o1 o4 o5 o6 h1 h2
   obtain ⟨a3, ha3⟩:=nm9 (a / n)
   rw [ha3] at o2 o3 h1 h2
   obtain ⟨b3, hb3⟩:=nm9 (cdv b n)
   rw [hb3] at o2 o3 h1 h2
   obtain ⟨a4, ha4⟩:=nm9 (a3 / n)
   rw [ha4] at o3 h1 h2
   obtain ⟨b4, hb4⟩:=nm9 (cdv b3 n)
   rw [hb4] at o3 h1 h2
   have O1:=Hd9 o1
   have O2:=Hd9 o2
   have O3:=Hd9 o3
   clear o1 o2 o3 tn0 hq hp hr ha3 hb3 ha4 hb4 t1 t2 x1 x2 x3 x4 x5 x6 y3 y4 sa sb ss su hab hn0 HR
   by_cases hk2 : k % 2 = 1
   ·obtain ⟨n1, n2⟩:=h1 hk2
    rw [n2] at hE
    have m1 : ((k : Int).tmod 2 == 1) = true:=by rw [beq_iff_eq, Int.tmod_eq_emod_of_nonneg (by omega)]; omega
    have m2 : ((k : Int) % 2 == 1) = true:=by rw [beq_iff_eq]; omega
    have O4:=Hd9 o4
    obtain ⟨p2, hp2⟩:=nm9 (-r)
    obtain ⟨r2, hr2⟩:=nm9 (-p)
    rw [hp2, hr2] at O4 o6 n1 hE
    obtain ⟨s4, hs4⟩:=nm9 (s + p2)
    obtain ⟨u4, hu4⟩:=nm9 (u + r2)
    rw [hs4, hu4] at o6 n1 hE
    have O5:=Hd9 o6
    have HR:=Hd9 (And.intro n1 hE)
    clear o4 o5 o6 h1 h2 n1 n2 hE hk2 hp2 hr2 hs4 hu4 ht hfk
    obtain ⟨cel00,cel01,cel02,cel03⟩:=L.b0.a4
    go_wp2_with fail
    refine (TN.out _ _ (isS_n (a:=a) (b:=b) (s:=.slice A1 (zl a) c1) (t:=.slice B1 (zl b) d1) (L.getN (by simp)) (L.getN (by simp)))).mono ?_
    rintro e w11 ⟨rfl, be⟩
    clear cel00 cel01 cel02 cel03
    replace L:=L.step be
    clear be
    obtain ⟨cel00,cel01,cel02,cel03⟩:=L.b0.a4
    go_wp2_with fail
    refine (O1.out _ _ (isS_n (a:=a) (b:=b) (s:=.slice A1 (zl a) c1) (t:=.slice B1 (zl b) d1) (L.getN (by simp)) (L.getN (by simp)))).mono ?_
    rintro e w12 ⟨vv, rfl, iq, be⟩
    clear cel00 cel01 cel02 cel03
    obtain ⟨A3, c3, B3, d3, rfl, ia, ib⟩:=iq.form
    replace L:=((L.step be).n ib).n ia
    clear be iq ia ib
    have hl3:=L.b0.lt
    have hl4:=L.tl.b0.lt
    replace L:=L.varS w12.heap.size rfl (ng p) A3 (zl p) c3 (ng r) B3 (zl r) d3
    obtain ⟨cel00,cel01,cel02,cel03⟩:=L.b0.a4
    go_wp2_with fail
    clear cel00 cel01 cel02 cel03
    obtain ⟨gx, hgx⟩:=nm9 (w12.heap.size)
    rw [hgx] at L hl3 hl4 ⊢
    clear hgx
    have hVx : V.heap.size ≤ gx:=by omega
    have hVs : V.heap.size ≤ gs:=by omega
    refine (O4.out _ _ (isS_n (a:=p) (b:=r) (s:=.slice A3 (zl p) c3) (t:=.slice B3 (zl r) d3) (L.getN (by simp)) (L.getN (by simp)))).mono ?_
    rintro e w13 ⟨vv, rfl, iq, be⟩
    obtain ⟨A4, c4, B4, d4, rfl, ia, ib⟩:=iq.form
    replace L:=((L.step be).n ib).n ia
    clear be iq ia ib
    obtain ⟨cel00,cel01,cel02,cel03⟩:=L.b0.a4
    obtain ⟨f00,f01,f02,f03⟩:=L.b0.f4
    have P:=L.putS (by omega) (by first | (simp; done) | (simp; omega)) (ng p2) A4 (zl p2) c4 (ng r2) B4 (zl r2) d4
    obtain ⟨p00,p01,p02,p03⟩:=P.b0.a4
    obtain ⟨p20,p21,p22,p23⟩:=P.tl.tl.b0.a4
    unfold put4 at p00 p01 p02 p03 p20 p21 p22 p23 P
    go_wp2_with fail
    replace L:=P
    clear P p00 p01 p02 p03 p20 p21 p22 p23
    clear cel00 f00 cel01 f01 cel02 f02 cel03 f03
    refine (O5.out _ _ _ (isS_n (a:=s) (b:=u) (s:=.slice A2 (zl s) c2) (t:=.slice B2 (zl u) d2) (L.getN (by simp)) (L.getN (by simp))) (isS_n (a:=p2) (b:=r2) (s:=.slice A4 (zl p2) c4) (t:=.slice B4 (zl r2) d4) (L.getN (by simp)) (L.getN (by simp)))).mono ?_
    rintro e w14 ⟨vv, rfl, iq, be⟩
    obtain ⟨A6, c6, B6, d6, rfl, ia, ib⟩:=iq.form
    replace L:=((L.step be).n ib).n ia
    clear be iq ia ib
    obtain ⟨cel20,cel21,cel22,cel23⟩:=L.tl.tl.b0.a4
    obtain ⟨f20,f21,f22,f23⟩:=L.tl.tl.b0.f4
    have P:=L.pull2.putS (by omega) (by first | (simp; done) | (simp; omega)) (ng s4) A6 (zl s4) c6 (ng u4) B6 (zl u4) d6
    obtain ⟨p20,p21,p22,p23⟩:=P.tl.tl.b0.a4
    unfold put4 at p20 p21 p22 p23 P
    go_wp2_with fail
    replace L:=P
    clear P p20 p21 p22 p23
    clear cel20 f20 cel21 f21 cel22 f22 cel23 f23
    refine (O2.out _ _ (isS_n (a:=a) (b:=b) (s:=.slice A1 (zl a) c1) (t:=.slice B1 (zl b) d1) (L.getN (by simp)) (L.getN (by simp)))).mono ?_
    rintro e w15 ⟨vv, rfl, iq, be⟩
    obtain ⟨A7, c7, B7, d7, rfl, ia, ib⟩:=iq.form
    replace L:=((L.step be).n ib).n ia
    clear be iq ia ib
    go_wp2_with fail
    refine (O3.out _ _ (isS_n (a:=a3) (b:=b3) (s:=.slice A7 (zl a3) c7) (t:=.slice B7 (zl b3) d7) (L.getN (by simp)) (L.getN (by simp)))).mono ?_
    rintro e w16 ⟨vv, rfl, iq, be⟩
    obtain ⟨A8, c8, B8, d8, rfl, ia, ib⟩:=iq.form
    replace L:=((L.step be).n ib).n ia
    clear be iq ia ib
    obtain ⟨cel20,cel21,cel22,cel23⟩:=L.tl.tl.b0.a4
    obtain ⟨f20,f21,f22,f23⟩:=L.tl.tl.b0.f4
    replace L:=L.pull2.putS (by omega) (by first | (simp; done) | (simp; omega)) (ng a4) A8 (zl a4) c8 (ng b4) B8 (zl b4) d8
    unfold put4 at L
    go_wp2_with fail
    go_roundw
    case rel => exact ⟨g, k + 1, a4, b4, s4, u4, A8, B8, A6, B6, c8, d8, c6, d6, by go_num, L.sub (by simp) (by simp), HR⟩
    case measure => simp [intOf]; omega
   ·obtain ⟨n1, n2⟩:=h2 hk2
    rw [n2] at hE
    have m1 : ((k : Int).tmod 2 == 1) = false:=by rw [beq_eq_false_iff_ne, Int.tmod_eq_emod_of_nonneg (by omega)]; omega
    have m2 : ((k : Int) % 2 == 1) = false:=by rw [beq_eq_false_iff_ne]; omega
    obtain ⟨s4, hs4⟩:=nm9 (s + p)
    obtain ⟨u4, hu4⟩:=nm9 (u + r)
    rw [hs4, hu4] at o5 n1 hE
    have O5:=Hd9 o5
    have HR:=Hd9 (And.intro n1 hE)
    clear o4 o5 o6 h1 h2 n1 n2 hE hk2 hs4 hu4 ht hfk
    obtain ⟨cel00,cel01,cel02,cel03⟩:=L.b0.a4
    go_wp2_with fail
    refine (TN.out _ _ (isS_n (a:=a) (b:=b) (s:=.slice A1 (zl a) c1) (t:=.slice B1 (zl b) d1) (L.getN (by simp)) (L.getN (by simp)))).mono ?_
    rintro e w11 ⟨rfl, be⟩
    clear cel00 cel01 cel02 cel03
    replace L:=L.step be
    clear be
    obtain ⟨cel00,cel01,cel02,cel03⟩:=L.b0.a4
    go_wp2_with fail
    refine (O1.out _ _ (isS_n (a:=a) (b:=b) (s:=.slice A1 (zl a) c1) (t:=.slice B1 (zl b) d1) (L.getN (by simp)) (L.getN (by simp)))).mono ?_
    rintro e w12 ⟨vv, rfl, iq, be⟩
    clear cel00 cel01 cel02 cel03
    obtain ⟨A3, c3, B3, d3, rfl, ia, ib⟩:=iq.form
    replace L:=((L.step be).n ib).n ia
    clear be iq ia ib
    have hl3:=L.b0.lt
    have hl4:=L.tl.b0.lt
    replace L:=L.varS w12.heap.size rfl (ng p) A3 (zl p) c3 (ng r) B3 (zl r) d3
    obtain ⟨cel00,cel01,cel02,cel03⟩:=L.b0.a4
    obtain ⟨cel20,cel21,cel22,cel23⟩:=L.tl.tl.b0.a4
    go_wp2_with fail
    clear cel00 cel01 cel02 cel03 cel20 cel21 cel22 cel23
    obtain ⟨gx, hgx⟩:=nm9 (w12.heap.size)
    rw [hgx] at L hl3 hl4 ⊢
    clear hgx
    have hVx : V.heap.size ≤ gx:=by omega
    have hVs : V.heap.size ≤ gs:=by omega
    refine (O5.out _ _ _ (isS_n (a:=s) (b:=u) (s:=.slice A2 (zl s) c2) (t:=.slice B2 (zl u) d2) (L.getN (by simp)) (L.getN (by simp))) (isS_n (a:=p) (b:=r) (s:=.slice A3 (zl p) c3) (t:=.slice B3 (zl r) d3) (L.getN (by simp)) (L.getN (by simp)))).mono ?_
    rintro e w13 ⟨vv, rfl, iq, be⟩
    obtain ⟨A6, c6, B6, d6, rfl, ia, ib⟩:=iq.form
    replace L:=((L.step be).n ib).n ia
    clear be iq ia ib
    obtain ⟨cel20,cel21,cel22,cel23⟩:=L.tl.tl.b0.a4
    obtain ⟨f20,f21,f22,f23⟩:=L.tl.tl.b0.f4
    have P:=L.pull2.putS (by omega) (by first | (simp; done) | (simp; omega)) (ng s4) A6 (zl s4) c6 (ng u4) B6 (zl u4) d6
    obtain ⟨p20,p21,p22,p23⟩:=P.tl.tl.b0.a4
    unfold put4 at p20 p21 p22 p23 P
    go_wp2_with fail
    replace L:=P
    clear P p20 p21 p22 p23
    clear cel20 f20 cel21 f21 cel22 f22 cel23 f23
    refine (O2.out _ _ (isS_n (a:=a) (b:=b) (s:=.slice A1 (zl a) c1) (t:=.slice B1 (zl b) d1) (L.getN (by simp)) (L.getN (by simp)))).mono ?_
    rintro e w14 ⟨vv, rfl, iq, be⟩
    obtain ⟨A7, c7, B7, d7, rfl, ia, ib⟩:=iq.form
    replace L:=((L.step be).n ib).n ia
    clear be iq ia ib
    go_wp2_with fail
    refine (O3.out _ _ (isS_n (a:=a3) (b:=b3) (s:=.slice A7 (zl a3) c7) (t:=.slice B7 (zl b3) d7) (L.getN (by simp)) (L.getN (by simp)))).mono ?_
    rintro e w15 ⟨vv, rfl, iq, be⟩
    obtain ⟨A8, c8, B8, d8, rfl, ia, ib⟩:=iq.form
    replace L:=((L.step be).n ib).n ia
    clear be iq ia ib
    obtain ⟨cel20,cel21,cel22,cel23⟩:=L.tl.tl.b0.a4
    obtain ⟨f20,f21,f22,f23⟩:=L.tl.tl.b0.f4
    replace L:=L.pull2.putS (by omega) (by first | (simp; done) | (simp; omega)) (ng a4) A8 (zl a4) c8 (ng b4) B8 (zl b4) d8
    unfold put4 at L
    go_wp2_with fail
    go_roundw
    case rel => exact ⟨g, k + 1, a4, b4, s4, u4, A8, B8, A6, B6, c8, d8, c6, d6, by go_num, L.sub (by simp) (by simp), HR⟩
    case measure => simp [intOf]; omega
  ·rw [ht] at tn0
   have TN:=Hd9 tn0
   have hE:=HR.out.2
   rw [atR_end ht] at hE
   obtain ⟨e1, e2⟩:=HXY.out
   rw [← hE] at e1 e2
   have o1:=fun x W h => s13wide_any s u 2 x W h (by omega) (by omega) (by omega) (by omega)
   rw [← e1, ← e2] at o1
   have O1:=Hd9 o1
   clear o1 e1 e2 hE tn0 HXY HR sa sb ss su hab ht
   obtain ⟨cel00,cel01,cel02,cel03⟩:=L.b0.a4
   go_wp2_with fail
   refine (TN.out _ _ (isS_n (a:=a) (b:=b) (s:=.slice A1 (zl a) c1) (t:=.slice B1 (zl b) d1) (L.getN (by simp)) (L.getN (by simp)))).mono ?_
   rintro e w11 ⟨rfl, be⟩
   clear cel00 cel01 cel02 cel03
   replace L:=L.step be
   clear be
   have hvs:=L.tl.b0
   have ha2:=L.getN (v:=.slice A2 (zl s) c2) (x:=s.natAbs) (by simp)
   have hb2:=L.getN (v:=.slice B2 (zl u) d2) (x:=u.natAbs) (by simp)
   have L:=(((LL.out.step L.below).n hb2).n ha2).b hvs
   clear hvs ha2 hb2 LL
   obtain ⟨cel00,cel01,cel02,cel03⟩:=L.b0.a4
   go_wp2_with fail
   refine (O1.out _ _ (isS_n (a:=s) (b:=u) (s:=.slice A2 (zl s) c2) (t:=.slice B2 (zl u) d2) (L.getN (by simp)) (L.getN (by simp)))).mono ?_
   rintro e w12 ⟨vv, rfl, iq, be⟩
   clear cel00 cel01 cel02 cel03
   obtain ⟨A9, c9, B9, d9, rfl, ia, ib⟩:=iq.form
   replace L:=((L.step be).n ib).n ia
   clear be iq ia ib
   replace L:=L.swap
   have n1 : w.heap.size ≠ gs:=by omega
   obtain ⟨cel00,cel01,cel02,cel03⟩:=L.b0.a4
   obtain ⟨f00,f01,f02,f03⟩:=L.b0.f4
   go_wp2_with fail
   have LP:=L.putS (by omega) (by first | (simp; done) | (simp; omega)) (ng X) A9 (zl X) c9 (ng Y) B9 (zl Y) d9
   obtain ⟨k0,k1,k2,k3⟩:=LP.b0.a4
   unfold put4 at k0 k1 k2 k3
   exact bodyPost_ret (v:=.agg #[.bool (ng X), .slice A9 (zl X) c9, .bool (ng Y), .slice B9 (zl Y) d9]) (by simp [results, Tryz.results104, go_sem, k0, k1, k2, k3]) rfl ⟨_, rfl, isS_n (LP.getN (by simp)) (LP.getN (by simp)), LP.below⟩

theorem mk_fits5 {m e : Int} (h : zl m ≤ 1900) (h1 : -60000 ≤ e) (h2 : e ≤ 4000) : mkR m e = 0:=by
 unfold mkR
 rw [if_neg (by omega)]
 by_cases h0 : m = 0
 ·rw [if_pos h0]
 ·rw [if_neg h0]
  have ht:=tz_le8 m.natAbs (by omega)
  have e1 : zl m = len m.natAbs:=rfl
  have hb : blen (oddM m).natAbs ≤ 65536:=by
   have:=blen_le_len (oddM m).natAbs
   have h3:=zl_odd m
   have e2 : zl (oddM m) = len (oddM m).natAbs:=rfl
   omega
  have ho : bitB (oddM m).natAbs 0 = true:=by
   obtain ⟨k, hk⟩:=tz_form (x:=m.natAbs) (by omega)
   have hd : m.natAbs / 2 ^ tz m.natAbs = 2 * k + 1:=by
    have:=Nat.mul_div_cancel_left (2 * k + 1) (Nat.pow_pos (n:=tz m.natAbs) (show 0 < 2 by omega))
    rwa [← hk] at this
   unfold bitB
   rw [oddM_abs, hd, Nat.pow_zero, Nat.div_one]
   exact decide_eq_true (by omega)
  have hf : fits8 (oddM m) (oddE m e) = true:=by
   unfold fits8 oddE
   rw [decide_eq_true hb, decide_eq_true (by omega), decide_eq_true (by omega), ho]
   rfl
  rw [hf]
  rfl
def wdM (m e n f : Int) : Int:=mkM (addS n f (-m) e) (min f e)
def wdE (m e n f : Int) : Int:=mkE (addS n f (-m) e) (min f e)
def wdR (m e n f : Int) : Int:=mkR (addS n f (-m) e) (min f e)
def tgtB (m e n f k : Int) : Bool:=decide (0 ≤ k) && (decide (k ≤ 4224) && (decide (dcm m e n f ≤ 0) && (onB m e k && (onB n f k && (decide (wdR m e n f = 0) && decide (dcm (wdM m e n f) (wdE m e n f) (gM 1 (k - 1)) (gE 1 (k - 1)) ≤ 0))))))

theorem s13tight_any (m e n f k : Int) (vx : Value) (w : World) (hx : IsI w vx m e n f) (lm : zl m ≤ 1000) (ln : zl n ≤ 1000) (he : -20000 ≤ e ∧ e ≤ 20000) (hf : -20000 ≤ f ∧ f ≤ 20000) (hv : Dv m e) (hv2 : Dv n f) (hk1 : -9223372036854775808 ≤ k) (hk2 : k ≤ 9223372036854775807) :
  Calls Tryz.prog 36 #[vx, .int .i64 k] w (RetB w (tgtB m e n f k)):=by
 obtain ⟨A, c, B, d, rfl, hn1, hn2⟩:=hx.form
 have L0:=((Lq.mk0 w).n hn2).n hn1
 have h0:=fun v W h => r10valid_any m e n f v W h lm ln (by omega) (by omega) hv hv2
 have h1:=fun v W h => ron9_any m e k v W h (by omega) (by omega)
 have h2:=fun v W h => ron9_any n f k v W h (by omega) (by omega)
 have h3:=fun v W h => r10width_any m e n f v W h lm ln he hf
 have zA:=zl_addS n f (-m) e 20000 (by omega) (by omega)
 have zN:=zl_neg m
 have zM:=zl_mk (addS n f (-m) e) (min f e)
 have hr : wdR m e n f = 0 → zl (wdM m e n f) ≤ 10000 ∧ -100000 ≤ wdE m e n f ∧ wdE m e n f ≤ 100000:=fun h => by
  have:=dv_bound (mk_ok h)
  unfold wdM wdE
  omega
 rw [show mkM (addS n f (-m) e) (min f e) = wdM m e n f from rfl, show mkE (addS n f (-m) e) (min f e) = wdE m e n f from rfl, show mkR (addS n f (-m) e) (min f e) = wdR m e n f from rfl] at h3
 have hu : 0 ≤ k → k ≤ 4224 → zl (gM 1 (k - 1)) ≤ 10000 ∧ -100000 ≤ gE 1 (k - 1) ∧ gE 1 (k - 1) ≤ 100000:=fun a b => by
  have hp : permB (k - 1) = true:=by
   unfold permB
   rw [decide_eq_true (show -2048 ≤ k - 1 by omega), decide_eq_true (show k - 1 ≤ 8192 by omega)]
   rfl
  obtain ⟨e1, e2, _⟩:=g_yes hp 1
  rw [e1, e2]
  have z1 : zl 1 ≤ 1:=len_le1 (by omega)
  have z2:=zl_mk 1 (-(k - 1))
  have hf : mkR 1 (-(k - 1)) = 0:=mk_fits5 (by omega) (by omega) (by omega)
  have:=dv_bound (mk_ok hf)
  omega
 have h5:=fun (a : 0 ≤ k) (b : k ≤ 4224) (r : wdR m e n f = 0) v u W g h => rcmp8_any (wdM m e n f) (wdE m e n f) (gM 1 (k - 1)) (gE 1 (k - 1)) v u W g h (Nat.le_trans (hr r).1 (by omega)) (Nat.le_trans (hu a b).1 (by omega)) (hr r).2 (hu a b).2
 have h4:=fun (a : 0 ≤ k) (b : k ≤ 4224) W => runit9_any (k - 1) W (by omega) (by omega)
 have HT:=Hd9 (rfl : tgtB m e n f k = tgtB m e n f k)
 generalize hT : tgtB m e n f k = T at HT ⊢
 unfold tgtB at hT
 rw [show dcm (wdM m e n f) (wdE m e n f) (gM 1 (k - 1)) (gE 1 (k - 1)) = cmpI (wdM m e n f * 2 ^ (wdE m e n f - min (wdE m e n f) (gE 1 (k - 1))).toNat) (gM 1 (k - 1) * 2 ^ (gE 1 (k - 1) - min (wdE m e n f) (gE 1 (k - 1))).toNat) from rfl] at hT
 generalize cmpI (wdM m e n f * 2 ^ (wdE m e n f - min (wdE m e n f) (gE 1 (k - 1))).toNat) (gM 1 (k - 1) * 2 ^ (gE 1 (k - 1) - min (wdE m e n f) (gE 1 (k - 1))).toNat) = x at *
 generalize wdM m e n f = M at *
 generalize wdE m e n f = E at *
 generalize wdR m e n f = R at *
 generalize gM 1 (k - 1) = M2 at *
 generalize gE 1 (k - 1) = E2 at *
 generalize gR 1 (k - 1) = R2 at *
 generalize decide (dcm m e n f ≤ 0) = bv at *
 generalize onB m e k = bl at *
 generalize onB n f k = bh at *
 have H0:=Hd9 h0
 have H1:=Hd9 h1
 have H2:=Hd9 h2
 have H3:=Hd9 h3
 have H4:=Hd9 h4
 have H5:=Hd9 h5
 clear h0 h1 h2 h3 h4 h5 zA zN zM hr hu HT lm ln he hf hv hv2 hn1 hn2
 obtain ⟨z, hz⟩:=nm9 (decide (x ≤ 0))
 rw [hz] at hT
 have HT:=Hd9 hT
 clear hT
 cases b0 : decide (0 ≤ k)
 ·rw [b0] at HT
  have hb0 : k < 0:=by have:=of_decide_eq_false b0; omega
  have q0 : decide (k < 0) = true:=decide_eq_true hb0
  have hT:=HT.out
  simp only [Bool.true_and, Bool.false_and] at hT
  subst hT
  
  go_enter Tryz.func36, Tryz.ntmps36
  go_wp2_with fail
  have L:=(L0.varI (w.heap.size) (by simp) (ng m) A (zl m) c e (ng n) B (zl n) d f)
  obtain ⟨c00,c01,c02,c03,c04,c05⟩:=L.b0.a6
  (try go_wp2_with fail)
  (try go_ret)
  exact ⟨rfl, L.below⟩
 ·rw [b0] at HT
  have hb0 : 0 ≤ k:=of_decide_eq_true b0
  have q0 : decide (k < 0) = false:=decide_eq_false (by omega)
  have w1 : IntKind.i64.wrap (k - 1) = k - 1:=by rw [IntKind.wrap_i64]; omega
  cases b1 : decide (k ≤ 4224)
  ·rw [b1] at HT
   have hb1 : 4224 < k:=by have:=of_decide_eq_false b1; omega
   have q1 : decide (4224 < k) = true:=decide_eq_true hb1
   have hT:=HT.out
   simp only [Bool.true_and, Bool.false_and] at hT
   subst hT
   
   go_enter Tryz.func36, Tryz.ntmps36
   go_wp2_with fail
   have L:=(L0.varI (w.heap.size) (by simp) (ng m) A (zl m) c e (ng n) B (zl n) d f)
   obtain ⟨c00,c01,c02,c03,c04,c05⟩:=L.b0.a6
   (try go_wp2_with fail)
   (try go_ret)
   exact ⟨rfl, L.below⟩
  ·rw [b1] at HT
   have hb1 : k ≤ 4224:=of_decide_eq_true b1
   have q1 : decide (4224 < k) = false:=decide_eq_false (by omega)
   cases bv
   ·skip
    have hT:=HT.out
    simp only [Bool.true_and, Bool.false_and] at hT
    subst hT
    
    go_enter Tryz.func36, Tryz.ntmps36
    go_wp2_with fail
    have L:=(L0.varI (w.heap.size) (by simp) (ng m) A (zl m) c e (ng n) B (zl n) d f)
    obtain ⟨c00,c01,c02,c03,c04,c05⟩:=L.b0.a6
    (try go_wp2_with fail)
    refine (H0.out _ _ (isI_n (m:=m) (e:=e) (n:=n) (f:=f) (L.getN (by simp)) (L.getN (by simp)))).mono ?_
    rintro e w1 ⟨rfl, be⟩
    clear c00 c01 c02 c03 c04 c05
    replace L:=L.step be
    clear be
    obtain ⟨c00,c01,c02,c03,c04,c05⟩:=L.b0.a6
    (try go_wp2_with fail)
    (try go_ret)
    exact ⟨rfl, L.below⟩
   ·cases bl
    ·skip
     have hT:=HT.out
     simp only [Bool.true_and, Bool.false_and] at hT
     subst hT
     
     go_enter Tryz.func36, Tryz.ntmps36
     go_wp2_with fail
     have L:=(L0.varI (w.heap.size) (by simp) (ng m) A (zl m) c e (ng n) B (zl n) d f)
     obtain ⟨c00,c01,c02,c03,c04,c05⟩:=L.b0.a6
     (try go_wp2_with fail)
     refine (H0.out _ _ (isI_n (m:=m) (e:=e) (n:=n) (f:=f) (L.getN (by simp)) (L.getN (by simp)))).mono ?_
     rintro e w1 ⟨rfl, be⟩
     clear c00 c01 c02 c03 c04 c05
     replace L:=L.step be
     clear be
     obtain ⟨c00,c01,c02,c03,c04,c05⟩:=L.b0.a6
     (try go_wp2_with fail)
     refine (H1.out _ _ (isD_n (m:=m) (e:=e) (s:=.slice A (zl m) c) (L.getN (by simp)))).mono ?_
     rintro e w2 ⟨rfl, be⟩
     clear c00 c01 c02 c03 c04 c05
     replace L:=L.step be
     clear be
     obtain ⟨c00,c01,c02,c03,c04,c05⟩:=L.b0.a6
     (try go_wp2_with fail)
     (try go_ret)
     exact ⟨rfl, L.below⟩
    ·cases bh
     ·skip
      have hT:=HT.out
      simp only [Bool.true_and, Bool.false_and] at hT
      subst hT
      
      go_enter Tryz.func36, Tryz.ntmps36
      go_wp2_with fail
      have L:=(L0.varI (w.heap.size) (by simp) (ng m) A (zl m) c e (ng n) B (zl n) d f)
      obtain ⟨c00,c01,c02,c03,c04,c05⟩:=L.b0.a6
      (try go_wp2_with fail)
      refine (H0.out _ _ (isI_n (m:=m) (e:=e) (n:=n) (f:=f) (L.getN (by simp)) (L.getN (by simp)))).mono ?_
      rintro e w1 ⟨rfl, be⟩
      clear c00 c01 c02 c03 c04 c05
      replace L:=L.step be
      clear be
      obtain ⟨c00,c01,c02,c03,c04,c05⟩:=L.b0.a6
      (try go_wp2_with fail)
      refine (H1.out _ _ (isD_n (m:=m) (e:=e) (s:=.slice A (zl m) c) (L.getN (by simp)))).mono ?_
      rintro e w2 ⟨rfl, be⟩
      clear c00 c01 c02 c03 c04 c05
      replace L:=L.step be
      clear be
      obtain ⟨c00,c01,c02,c03,c04,c05⟩:=L.b0.a6
      (try go_wp2_with fail)
      refine (H2.out _ _ (isD_n (m:=n) (e:=f) (s:=.slice B (zl n) d) (L.getN (by simp)))).mono ?_
      rintro e w3 ⟨rfl, be⟩
      clear c00 c01 c02 c03 c04 c05
      replace L:=L.step be
      clear be
      obtain ⟨c00,c01,c02,c03,c04,c05⟩:=L.b0.a6
      (try go_wp2_with fail)
      (try go_ret)
      exact ⟨rfl, L.below⟩
     ·cases br : decide (R = 0)
      ·rw [br] at HT
       have hbr : ¬ R = 0:=of_decide_eq_false br
       have q3 : (R == 0) = false:=by rw [beq_eq_false_iff_ne]; exact hbr
       have hT:=HT.out
       simp only [Bool.true_and, Bool.false_and] at hT
       subst hT
       
       go_enter Tryz.func36, Tryz.ntmps36
       go_wp2_with fail
       have L:=(L0.varI (w.heap.size) (by simp) (ng m) A (zl m) c e (ng n) B (zl n) d f)
       obtain ⟨c00,c01,c02,c03,c04,c05⟩:=L.b0.a6
       (try go_wp2_with fail)
       refine (H0.out _ _ (isI_n (m:=m) (e:=e) (n:=n) (f:=f) (L.getN (by simp)) (L.getN (by simp)))).mono ?_
       rintro e w1 ⟨rfl, be⟩
       clear c00 c01 c02 c03 c04 c05
       replace L:=L.step be
       clear be
       obtain ⟨c00,c01,c02,c03,c04,c05⟩:=L.b0.a6
       (try go_wp2_with fail)
       refine (H1.out _ _ (isD_n (m:=m) (e:=e) (s:=.slice A (zl m) c) (L.getN (by simp)))).mono ?_
       rintro e w2 ⟨rfl, be⟩
       clear c00 c01 c02 c03 c04 c05
       replace L:=L.step be
       clear be
       obtain ⟨c00,c01,c02,c03,c04,c05⟩:=L.b0.a6
       (try go_wp2_with fail)
       refine (H2.out _ _ (isD_n (m:=n) (e:=f) (s:=.slice B (zl n) d) (L.getN (by simp)))).mono ?_
       rintro e w3 ⟨rfl, be⟩
       clear c00 c01 c02 c03 c04 c05
       replace L:=L.step be
       clear be
       obtain ⟨c00,c01,c02,c03,c04,c05⟩:=L.b0.a6
       (try go_wp2_with fail)
       refine (H3.out _ _ (isI_n (m:=m) (e:=e) (n:=n) (f:=f) (L.getN (by simp)) (L.getN (by simp)))).mono ?_
       rintro e w4 ⟨vv, rfl, id, be⟩
       clear c00 c01 c02 c03 c04 c05
       obtain ⟨A2, c2, rfl, _, in9⟩:=id.form
       replace L:=(L.step be).n in9
       clear be id in9
       have hl0:=L.b0.lt
       replace L:=L.varD w4.heap.size rfl (ng M) A2 (zl M) c2 E
       obtain ⟨c00,c01,c02⟩:=L.b0.a3
       go_wp2_with fail
       clear c00 c01 c02
       obtain ⟨g1, hg1⟩:=nm9 (w4.heap.size)
       rw [hg1] at L hl0 ⊢
       clear hg1
       refine (H4.out hb0 hb1 _).mono ?_
       rintro e w5 ⟨vv, rfl, id, be⟩
       obtain ⟨A3, c3, rfl, _, in9⟩:=id.form
       replace L:=(L.step be).n in9
       clear be id in9
       have hl1:=L.b0.lt
       replace L:=L.varD w5.heap.size rfl (ng M2) A3 (zl M2) c3 E2
       obtain ⟨c00,c01,c02⟩:=L.b0.a3
       obtain ⟨c10,c11,c12⟩:=L.tl.b0.a3
       go_wp2_with fail
       (try go_ret)
       exact ⟨rfl, L.below⟩
      ·rw [br] at HT
       have hbr : R = 0:=of_decide_eq_true br
       have H6:=Hd9 (fun v u W g h => H5.out hb0 hb1 hbr v u W g h)
       subst hbr
       have hT:=HT.out
       simp only [Bool.true_and, Bool.false_and] at hT
       subst hT
       subst hz
       
       go_enter Tryz.func36, Tryz.ntmps36
       go_wp2_with fail
       have L:=(L0.varI (w.heap.size) (by simp) (ng m) A (zl m) c e (ng n) B (zl n) d f)
       obtain ⟨c00,c01,c02,c03,c04,c05⟩:=L.b0.a6
       (try go_wp2_with fail)
       refine (H0.out _ _ (isI_n (m:=m) (e:=e) (n:=n) (f:=f) (L.getN (by simp)) (L.getN (by simp)))).mono ?_
       rintro e w1 ⟨rfl, be⟩
       clear c00 c01 c02 c03 c04 c05
       replace L:=L.step be
       clear be
       obtain ⟨c00,c01,c02,c03,c04,c05⟩:=L.b0.a6
       (try go_wp2_with fail)
       refine (H1.out _ _ (isD_n (m:=m) (e:=e) (s:=.slice A (zl m) c) (L.getN (by simp)))).mono ?_
       rintro e w2 ⟨rfl, be⟩
       clear c00 c01 c02 c03 c04 c05
       replace L:=L.step be
       clear be
       obtain ⟨c00,c01,c02,c03,c04,c05⟩:=L.b0.a6
       (try go_wp2_with fail)
       refine (H2.out _ _ (isD_n (m:=n) (e:=f) (s:=.slice B (zl n) d) (L.getN (by simp)))).mono ?_
       rintro e w3 ⟨rfl, be⟩
       clear c00 c01 c02 c03 c04 c05
       replace L:=L.step be
       clear be
       obtain ⟨c00,c01,c02,c03,c04,c05⟩:=L.b0.a6
       (try go_wp2_with fail)
       refine (H3.out _ _ (isI_n (m:=m) (e:=e) (n:=n) (f:=f) (L.getN (by simp)) (L.getN (by simp)))).mono ?_
       rintro e w4 ⟨vv, rfl, id, be⟩
       clear c00 c01 c02 c03 c04 c05
       obtain ⟨A2, c2, rfl, _, in9⟩:=id.form
       replace L:=(L.step be).n in9
       clear be id in9
       have hl0:=L.b0.lt
       replace L:=L.varD w4.heap.size rfl (ng M) A2 (zl M) c2 E
       obtain ⟨c00,c01,c02⟩:=L.b0.a3
       go_wp2_with fail
       clear c00 c01 c02
       obtain ⟨g1, hg1⟩:=nm9 (w4.heap.size)
       rw [hg1] at L hl0 ⊢
       clear hg1
       refine (H4.out hb0 hb1 _).mono ?_
       rintro e w5 ⟨vv, rfl, id, be⟩
       obtain ⟨A3, c3, rfl, _, in9⟩:=id.form
       replace L:=(L.step be).n in9
       clear be id in9
       have hl1:=L.b0.lt
       replace L:=L.varD w5.heap.size rfl (ng M2) A3 (zl M2) c3 E2
       obtain ⟨c00,c01,c02⟩:=L.b0.a3
       obtain ⟨c10,c11,c12⟩:=L.tl.b0.a3
       go_wp2_with fail
       clear c00 c01 c02 c10 c11 c12
       obtain ⟨g2, hg2⟩:=nm9 (w5.heap.size)
       rw [hg2] at L hl1 ⊢
       clear hg2
       refine (H6.out _ _ _ (isD_n (m:=M) (e:=E) (s:=.slice A2 (zl M) c2) (L.getN (by simp))) (isD_n (m:=M2) (e:=E2) (s:=.slice A3 (zl M2) c3) (L.getN (by simp)))).mono ?_
       rintro e w6 ⟨rfl, be⟩
       replace L:=L.step be
       clear be
       (try go_wp2_with fail)
       (try go_ret)
       exact ⟨rfl, L.below⟩
structure AtV (v : Nat) (x : Rat) (k : Nat) (a b s u : Int) : Prop where
 a : dq a (-(v : Int)) ≤ rp x (2 * k + 1)
 b : rp x (2 * k + 1) ≤ dq b (-(v : Int))
 s : dq s (-(v : Int)) ≤ ats k x
 u : ats k x ≤ dq u (-(v : Int))
theorem AtV.step {v : Nat} {n : Int} {k : Nat} {a b s u : Int} (hn : 0 < n) (h : AtV v ((n : Rat)⁻¹) k a b s u) :
  (k % 2 = 1 → AtV v ((n : Rat)⁻¹) (k + 1) (a / n / n) (cdv (cdv b n) n) (s + -(cdv b (2 * k + 1))) (u + -(a / (2 * k + 1)))) ∧ (k % 2 ≠ 1 → AtV v ((n : Rat)⁻¹) (k + 1) (a / n / n) (cdv (cdv b n) n) (s + a / (2 * k + 1)) (u + cdv b (2 * k + 1))):=by
 have nn : (0 : Rat) < (n : Rat):=Rat.intCast_lt_intCast.2 hn
 have i:=Rat.inv_mul_cancel (n : Rat) (Rat.ne_of_gt nn)
 have ip:=Rat.inv_pos.2 nn
 have k0 : (0 : Int) < 2 * (k : Int) + 1:=by omega
 have a1:=fdiv_le (x:=a) hn (-(v : Int))
 have a2:=fdiv_le (x:=a / n) hn (-(v : Int))
 have b1:=le_cdiv (x:=b) hn (-(v : Int))
 have b2:=le_cdiv (x:=cdv b n) hn (-(v : Int))
 have t1:=fdiv_le (x:=a) k0 (-(v : Int))
 have t2:=le_cdiv (x:=b) k0 (-(v : Int))
 have ek : ((2 * (k : Int) + 1 : Int) : Rat) = ((2 * k : Nat) : Rat) + 1:=by push_cast; rfl
 rw [ek] at t1 t2
 have kn:=nat_nn (2 * k)
 have kp : (0 : Rat) < ((2 * k : Nat) : Rat) + 1:=by grind
 have dv : rp ((n : Rat)⁻¹) (2 * k + 1) / (((2 * k : Nat) : Rat) + 1) * (((2 * k : Nat) : Rat) + 1) = rp ((n : Rat)⁻¹) (2 * k + 1):=Rat.div_mul_cancel (Rat.ne_of_gt kp)
 have e : rp ((n : Rat)⁻¹) (2 * (k + 1) + 1) = rp ((n : Rat)⁻¹) (2 * k + 1) * (n : Rat)⁻¹ * (n : Rat)⁻¹:=rfl
 have ea : ats (k + 1) ((n : Rat)⁻¹) = ats k ((n : Rat)⁻¹) + if evn k then rp ((n : Rat)⁻¹) (2 * k + 1) / (((2 * k : Nat) : Rat) + 1) else -(rp ((n : Rat)⁻¹) (2 * k + 1) / (((2 * k : Nat) : Rat) + 1)):=by
  show (sr evn k _ + if evn k then _ else 0) - (sr odn k _ + if (!evn k) = true then _ else 0) = sr evn k _ - sr odn k _ + _
  cases evn k <;> simp only [Bool.not_false, Bool.not_true, if_true, Bool.false_eq_true, if_false] <;> grind
 obtain ⟨ha, hb, hs, hu⟩:=h
 have r0:=rp_nn (Rat.le_of_lt ip) (2 * k + 1)
 have pa : dq (a / n / n) (-(v : Int)) ≤ rp ((n : Rat)⁻¹) (2 * (k + 1) + 1):=by
  rw [e]
  generalize (n : Rat)⁻¹ = y at *
  generalize rp y (2 * k + 1) = R at *
  have q : dq (a / n / n) (-(v : Int)) * ((n : Rat) * (n : Rat)) ≤ R:=by
   have:=Rat.mul_le_mul_of_nonneg_right a2 (Rat.le_of_lt nn)
   grind
  refine le_of_mul (c:=(n : Rat) * (n : Rat)) (Rat.mul_pos nn nn) ?_
  have q2 : R * y * y * ((n : Rat) * (n : Rat)) = R * (y * (n : Rat)) * (y * (n : Rat)):=by grind
  rw [q2, i, Rat.mul_one, Rat.mul_one]
  exact q
 have pb : rp ((n : Rat)⁻¹) (2 * (k + 1) + 1) ≤ dq (cdv (cdv b n) n) (-(v : Int)):=by
  rw [e]
  generalize (n : Rat)⁻¹ = y at *
  generalize rp y (2 * k + 1) = R at *
  have q : R ≤ dq (cdv (cdv b n) n) (-(v : Int)) * ((n : Rat) * (n : Rat)):=by
   have:=Rat.mul_le_mul_of_nonneg_right b2 (Rat.le_of_lt nn)
   grind
  refine le_of_mul (c:=(n : Rat) * (n : Rat)) (Rat.mul_pos nn nn) ?_
  have q2 : R * y * y * ((n : Rat) * (n : Rat)) = R * (y * (n : Rat)) * (y * (n : Rat)):=by grind
  rw [q2, i, Rat.mul_one, Rat.mul_one]
  exact q
 have ta : dq (a / (2 * k + 1)) (-(v : Int)) ≤ rp ((n : Rat)⁻¹) (2 * k + 1) / (((2 * k : Nat) : Rat) + 1):=le_of_mul kp (by rw [dv]; grind)
 have tb : rp ((n : Rat)⁻¹) (2 * k + 1) / (((2 * k : Nat) : Rat) + 1) ≤ dq (cdv b (2 * k + 1)) (-(v : Int)):=le_of_mul kp (by rw [dv]; grind)
 have hev : evn k = decide (k % 2 = 0):=rfl
 constructor
 ·intro hk
  have h2 : evn k = false:=by rw [hev]; exact decide_eq_false (by omega)
  rw [h2] at ea
  simp only [Bool.false_eq_true, if_false] at ea
  refine ⟨pa, pb, ?_, ?_⟩
  ·rw [ea, dq_addI, dq_neg]; grind
  ·rw [ea, dq_addI, dq_neg]; grind
 ·intro hk
  have h2 : evn k = true:=by rw [hev]; exact decide_eq_true (by omega)
  rw [h2] at ea
  simp only [if_true] at ea
  refine ⟨pa, pb, ?_, ?_⟩
  ·rw [ea, dq_addI]; grind
  ·rw [ea, dq_addI]; grind
theorem atR_enc {n : Int} {v : Nat} (hn : 2 ≤ n) : ∀ (f k : Nat) (a b s u : Int), SeI v f k a b s u → AtV v ((n : Rat)⁻¹) k a b s u → ∃ j, dq (atR n f k a b s u).1 (-(v : Int)) ≤ ats j ((n : Rat)⁻¹) ∧ ats j ((n : Rat)⁻¹) ≤ dq (atR n f k a b s u).2 (-(v : Int)) ∧ rp ((n : Rat)⁻¹) (2 * j + 1) ≤ dq 1 (-(v : Int))
  | f, k, a, b, s, u, h, hV => by
    cases ht : tnB a b
    · obtain ⟨g, rfl, _, _, h1, h2⟩:=at_step hn h ht
      obtain ⟨s1, s2⟩:=hV.step (show 0 < n by omega)
      by_cases hk : k % 2 = 1
      · obtain ⟨q1, q2⟩:=h1 hk
        rw [q2]
        exact atR_enc hn g _ _ _ _ _ q1 (s1 hk)
      · obtain ⟨q1, q2⟩:=h2 hk
        rw [q2]
        exact atR_enc hn g _ _ _ _ _ q1 (s2 hk)
    · rw [atR_end ht]
      refine ⟨k, hV.s, hV.u, Rat.le_trans hV.b ((dq_le_iff _ _ _).2 ?_)⟩
      unfold tnB at ht
      rw [Bool.and_eq_true] at ht
      have:=of_decide_eq_true ht.2
      omega
theorem at_inv {n : Int} (hn : 2 ≤ n) (v : Nat) : AtL (dq (atL n v) (-(v : Int))) ((n : Rat)⁻¹) ∧ AtU ((n : Rat)⁻¹) (dq (atH n v) (-(v : Int))):=by
 have nn : (0 : Rat) < (n : Rat):=Rat.intCast_lt_intCast.2 (show (0 : Int) < n by omega)
 have n1 : (1 : Rat) ≤ (n : Rat):=Rat.intCast_le_intCast.2 (show (1 : Int) ≤ n by omega)
 have i:=Rat.inv_mul_cancel (n : Rat) (Rat.ne_of_gt nn)
 have ip:=Rat.inv_pos.2 nn
 have x1 : (n : Rat)⁻¹ ≤ 1:=le_of_mul nn (by rw [i]; grind)
 have hn0 : (0 : Int) < n:=by omega
 have one : dq (2 ^ v) (-(v : Int)) = 1:=by rw [dq_scale]; exact two_cast v
 have c1:=fdiv_le (x:=2 ^ v) hn0 (-(v : Int))
 have c2:=le_cdiv (x:=2 ^ v) hn0 (-(v : Int))
 rw [one] at c1 c2
 have hV : AtV v ((n : Rat)⁻¹) 0 (2 ^ v / n) (cdv (2 ^ v) n) 0 0:=by
  have z : ats 0 ((n : Rat)⁻¹) = 0:=by show (0 : Rat) - 0 = 0; exact Rat.sub_self
  have e : rp ((n : Rat)⁻¹) (2 * 0 + 1) = (n : Rat)⁻¹:=Rat.one_mul _
  refine ⟨?_, ?_, by rw [z, dq_zero]; exact Rat.le_refl, by rw [z, dq_zero]; exact Rat.le_refl⟩
  ·rw [e]
   exact le_of_mul nn (by rw [i]; exact c1)
  ·rw [e]
   exact le_of_mul nn (by rw [i]; exact c2)
 obtain ⟨j, h1, h2, h3⟩:=atR_enc hn v 0 _ _ 0 0 (at_first hn v) hV
 obtain ⟨l, k⟩:=at_ser j ip x1 (Rat.le_refl (a:=rp ((n : Rat)⁻¹) (2 * j)))
 have e : (n : Rat)⁻¹ * rp ((n : Rat)⁻¹) (2 * j) = rp ((n : Rat)⁻¹) (2 * j + 1):=Rat.mul_comm _ _
 rw [e] at l k
 have u:=dq_pos (-(v : Int))
 have e2 : dq 2 (-(v : Int)) = 2 * dq 1 (-(v : Int)):=dq_scale _ _
 unfold atL atH atS
 refine ⟨Or.inl ⟨ip, l.mono ?_ Rat.le_refl⟩, Or.inr (Or.inr ⟨by grind, ?_⟩)⟩
 ·rw [dq_sub9, e2]; clear l k; grind
 ·rw [Rat.neg_neg, Rat.neg_neg]
  refine k.mono ?_ Rat.le_refl
  rw [dq_addI, e2]; clear l k; grind
theorem inv_zl {n : Int} (hn : 2 ≤ n) {v : Nat} (hv : v ≤ 300) : zl (atL n v) ≤ 25 ∧ zl (atH n v) ≤ 25:=by
 obtain ⟨h1, h2⟩:=atR_abs hn v 0 (2 ^ v / n) (cdv (2 ^ v) n) 0 0 (at_first hn v)
 have x1:=h1.zl
 have x2:=h2.zl
 have x3:=zl_sub (atR n v 0 (2 ^ v / n) (cdv (2 ^ v) n) 0 0).1 2
 have x4:=zl_add (atR n v 0 (2 ^ v / n) (cdv (2 ^ v) n) 0 0).2 2
 have x5 : zl 2 ≤ 1:=len_le1 (by omega)
 unfold atL atH atS
 omega
theorem dq_24 {k v : Nat} (hv : v = k + 24) (y : Int) : dq y (-(k : Int)) = dq (y * 2 ^ 24) (-(v : Int)):=by
 refine dq_eq (F := -(v : Int)) ?_ (by omega) (by omega)
 rw [show (-(k : Int) - -(v : Int)).toNat = 24 by omega, show (-(v : Int) - -(v : Int)).toNat = 0 by omega]
 simp
def RetIv (w : World) (j : Nat) (x : Rat) (en : Ending) (w' : World) : Prop:=∃ a b : Int, (AtL (dq a (-(j : Int))) x ∧ AtU x (dq b (-(j : Int))) ∧ zl a ≤ 26 ∧ zl b ≤ 26) ∧ RetI6 w (mkM a (-(j : Int))) (mkE a (-(j : Int))) (mkM b (-(j : Int))) (mkE b (-(j : Int))) en w'
theorem tgt16 {X Y : Int} {k : Nat} (hX : AbP X (k + 21)) (hY : AbP Y (k + 21)) (h1 : X ≤ Y) (h2 : Y ≤ X + 2) (hk : k ≤ 200) : tgtB (mkM X (-(k : Int))) (mkE X (-(k : Int))) (mkM Y (-(k : Int))) (mkE Y (-(k : Int))) (k : Int) = true:=by
 obtain ⟨a1, a2, a3, a4, a5⟩:=nx (x := -(k : Int)) hX (by omega) (by omega)
 obtain ⟨b1, b2, b3, b4, b5⟩:=nx (x := -(k : Int)) hY (by omega) (by omega)
 have hpk : permB (k : Int) = true:=permN (by omega)
 have hpj : permB ((k : Int) - 1) = true:=by
  unfold permB
  rw [decide_eq_true (show (-2048 : Int) ≤ (k : Int) - 1 by omega), decide_eq_true (show (k : Int) - 1 ≤ 8192 by omega)]
  rfl
 obtain ⟨g1, g2, g3⟩:=g_yes hpj 1
 have hr1 : mkR 1 (-((k : Int) - 1)) = 0:=mk_fits9 (show zl 1 ≤ 700 from Nat.le_trans (len_le1 (by decide)) (by omega)) (by omega) (by omega)
 obtain ⟨c1, c2, c3⟩:=nx_sub hY hX (show k + 21 ≤ 6000 by omega) (show -6000 ≤ -(k : Int) ∧ -(k : Int) ≤ 100 by omega)
 have hD : AbP (Y - X) 2:=by unfold AbP; omega
 obtain ⟨d1, _, _, _, d5⟩:=nx (x := -(k : Int)) hD (by omega) (by omega)
 have hdm : dcm (mkM X (-(k : Int))) (mkE X (-(k : Int))) (mkM Y (-(k : Int))) (mkE Y (-(k : Int))) ≤ 0:=(dcm_le _ _ _ _).2 (by rw [a5, b5]; exact (dq_le_iff _ _ _).2 h1)
 have o1 : onB (mkM X (-(k : Int))) (mkE X (-(k : Int))) (k : Int) = true:=by
  unfold onB
  rw [hpk, decide_eq_true (show -(k : Int) ≤ mkE X (-(k : Int)) by omega), Bool.or_true, Bool.and_true]
 have o2 : onB (mkM Y (-(k : Int))) (mkE Y (-(k : Int))) (k : Int) = true:=by
  unfold onB
  rw [hpk, decide_eq_true (show -(k : Int) ≤ mkE Y (-(k : Int)) by omega), Bool.or_true, Bool.and_true]
 have e2 : dq 1 (-((k : Int) - 1)) = dq 2 (-(k : Int)):=by
  refine dq_eq (F := -(k : Int)) ?_ (by omega) (by omega)
  rw [show (-((k : Int) - 1) - -(k : Int)).toNat = 1 by omega, show (-(k : Int) - -(k : Int)).toNat = 0 by omega]
  rfl
 unfold tgtB wdM wdE wdR
 rw [c1, c2, c3, g1, g2, o1, o2, decide_eq_true hdm, decide_eq_true (show (0 : Int) ≤ (k : Int) by omega), decide_eq_true (show (k : Int) ≤ 4224 by omega), decide_eq_true (show (0 : Int) = 0 from rfl), decide_eq_true ((dcm_le _ _ _ _).2 (by rw [d5, dq_mk hr1, e2]; exact (dq_le_iff _ _ _).2 (by omega)))]
 rfl

theorem s16inv_any (n : Int) (k : Nat) (w : World) (h2 : 2 ≤ n) (h3 : n ≤ 1000000) (hk : k ≤ 200) :
  Calls Tryz.prog 38 #[.int .i64 n, .int .i64 (k : Int)] w (RetIv w (k + 16) ((n : Rat)⁻¹)):=by
 obtain ⟨v, hv⟩:=nm9 (k + 40)
 have w1 : IntKind.i64.wrap ((k : Int) + 40) = (v : Int):=by rw [IntKind.wrap_i64]; omega
 have w2 : IntKind.i64.wrap ((k : Int) + 16) = ((k + 16 : Nat) : Int):=by rw [IntKind.wrap_i64]; omega
 have g1:=fun W => s13atan_any n v W h2 h3 (by omega)
 obtain ⟨z1, z2⟩:=inv_zl h2 (show v ≤ 300 by omega)
 have g2:=fun x W h => s13out_any (atL n v) (atH n v) v (k + 16) 24 x W h (by omega) (by omega) (by omega) (by omega) (by omega)
 obtain ⟨q1, q2⟩:=at_inv h2 v
 have hp : (0 : Int) < 2 ^ 24:=by decide
 have e1 : dq (atL n v / 2 ^ 24) (-((k + 16 : Nat) : Int)) ≤ dq (atL n v) (-(v : Int)):=by
  rw [dq_24 (show v = k + 16 + 24 by omega)]
  exact (dq_le_iff _ _ _).2 (Int.ediv_mul_le _ (by decide))
 have e2 : dq (atH n v) (-(v : Int)) ≤ dq (cdv (atH n v) (2 ^ 24)) (-((k + 16 : Nat) : Int)):=by
  rw [dq_24 (show v = k + 16 + 24 by omega)]
  exact (dq_le_iff _ _ _).2 (le_cdv hp)
 have z3 : zl (atL n v / 2 ^ 24) ≤ 26:=Nat.le_trans (len_mono (abs_floor _ hp)) (by have e9 : zl (atL n v) = len (atL n v).natAbs:=rfl; omega)
 have z4 : zl (cdv (atH n v) (2 ^ 24)) ≤ 26:=Nat.le_trans (zl_cdv (atH n v) hp) (by omega)
 have HR:=Hd9 (And.intro (q1.mono e1) (And.intro (q2.mono e2) (And.intro z3 z4)))
 clear q1 q2 e1 e2 z1 z2 z3 z4 hp
 generalize atL n v = X at *
 generalize atH n v = Y at *
 obtain ⟨a, ha⟩:=nm9 (X / 2 ^ 24)
 obtain ⟨b, hb⟩:=nm9 (cdv Y (2 ^ 24))
 rw [ha, hb] at g2 HR
 obtain ⟨Ma, hMa⟩:=nm9 (mkM a (-((k + 16 : Nat) : Int)))
 obtain ⟨Ea, hEa⟩:=nm9 (mkE a (-((k + 16 : Nat) : Int)))
 obtain ⟨Nb, hNb⟩:=nm9 (mkM b (-((k + 16 : Nat) : Int)))
 obtain ⟨Fb, hFb⟩:=nm9 (mkE b (-((k + 16 : Nat) : Int)))
 rw [hMa, hEa, hNb, hFb] at g2
 have HN:=Hd9 (And.intro (And.intro hMa hEa) (And.intro hNb hFb))
 have G1:=Hd9 g1
 have G2:=Hd9 g2
 clear g1 g2 hMa hEa hNb hFb ha hb hk h2 h3 hv
 obtain ⟨j, hj⟩:=nm9 (k + 16)
 rw [hj] at G2 w2 HR HN ⊢
 go_enter Tryz.func38, Tryz.ntmps38
 have L:=((Lq.mk0 w).varI (w.heap.size) (by simp) false none 0 0 0 false none 0 0 0)
 (try go_wp2_with fail)
 refine (G1.out _).mono ?_
 rintro e w1 ⟨vv, rfl, iq, be⟩
 obtain ⟨A, c, B, d, rfl, ia, ib⟩:=iq.form
 replace L:=((L.step be).n ib).n ia
 clear be iq ia ib
 (try go_wp2_with fail)
 refine (G2.out _ _ (isS_n (a:=X) (b:=Y) (s:=.slice A (zl X) c) (t:=.slice B (zl Y) d) (L.getN (by simp)) (L.getN (by simp)))).mono ?_
 rintro e w2 ⟨vv, rfl, ii, be⟩
 obtain ⟨A6, c6, B6, d6, rfl, ia, ib⟩:=ii.form
 replace L:=((L.step be).n ib).n ia
 clear be ii ia ib
 have L9:=L.subx (ns':=[(.slice A6 (zl Ma) c6, Ma.natAbs), (.slice B6 (zl Nb) d6, Nb.natAbs)]) (bs':=[(w.heap.size, 28, #[.bool false, .slice none 0 0, .int .i64 0, .bool false, .slice none 0 0, .int .i64 0])]) (by simp) (by simp)
 clear L
 have L:=L9
 clear L9
 obtain ⟨c00,c01,c02,c03,c04,c05⟩:=L.b0.a6
 obtain ⟨f00,f01,f02,f03,f04,f05⟩:=L.b0.f6
 go_wp2_with fail
 clear c00 f00 c01 f01 c02 f02 c03 f03 c04 f04 c05 f05
 have hR:=HR.out
 obtain ⟨⟨hMa, hEa⟩, hNb, hFb⟩:=HN.out
 subst hMa hEa hNb hFb
 have LP:=L.putI (by omega) (by first | (simp; done) | (simp; omega)) (ng (mkM a (-(j : Int)))) A6 (zl (mkM a (-(j : Int)))) c6 (mkE a (-(j : Int))) (ng (mkM b (-(j : Int)))) B6 (zl (mkM b (-(j : Int)))) d6 (mkE b (-(j : Int)))
 obtain ⟨k0,k1,k2,k3,k4,k5⟩:=LP.b0.a6
 unfold put6 at k0 k1 k2 k3 k4 k5
 exact bodyPost_ret (v:=.agg #[.bool (ng (mkM a (-(j : Int)))), .slice A6 (zl (mkM a (-(j : Int)))) c6, .int .i64 (mkE a (-(j : Int))), .bool (ng (mkM b (-(j : Int)))), .slice B6 (zl (mkM b (-(j : Int)))) d6, .int .i64 (mkE b (-(j : Int)))]) (by simp [results, Tryz.results38, go_sem, k0, k1, k2, k3, k4, k5]) rfl ⟨a, b, hR, _, rfl, isI_n (LP.getN (by simp)) (LP.getN (by simp)), LP.below⟩


end Go.Proofs.YtmgbjldogggpcaaGreatDoor
