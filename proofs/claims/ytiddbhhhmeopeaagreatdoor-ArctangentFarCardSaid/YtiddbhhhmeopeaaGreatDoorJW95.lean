/- Joined: AtE, AtPE, ExK, AtL, MillIvT, AtU, Awake16, DyOpen (what the law leans on). -/
import Derived.Test.YtiddbhhhmeopeaaGreatDoorBaseIW9
import Derived.Test.YtiddbhhhmeopeaaGreatDoorBaseDW9
import Derived.Test.YtiddbhhhmeopeaaGreatDoorBaseEW9
import Derived.Test.YtiddbhhhmeopeaaGreatDoorBaseVW9
import Derived.Test.YtiddbhhhmeopeaaGreatDoorBaseFW9
import Derived.Test.YtiddbhhhmeopeaaGreatDoorBaseWW9
import Derived.Test.YtiddbhhhmeopeaaGreatDoorRefGrBW9
import Derived.Test.YtiddbhhhmeopeaaGreatDoorBaseXW9
import Derived.Test.YtiddbhhhmeopeaaGreatDoorGrPCW9
import Derived.Test.YtiddbhhhmeopeaaGreatDoorBaseZW9
import Derived.Test.YtiddbhhhmeopeaaGreatDoorJW91
import Derived.Test.YtiddbhhhmeopeaaGreatDoorJW92
import Derived.Test.YtiddbhhhmeopeaaGreatDoorJW93
import Derived.Test.YtiddbhhhmeopeaaGreatDoorJW94
import Derived.BigQuiet
import Derived.ChangeOld
import Derived.Deep.Cut
import Derived.Deep.CutRange
import Derived.Deep.DrawnRows
import Derived.Deep.QuietTactic
import Derived.Deep.RegionHeld3
import Derived.Lib.SmallJoins
import Derived.OpenShut
import Derived.ProofKit
namespace Go.Proofs.YtiddbhhhmeopeaaGreatDoor
set_option maxHeartbeats 64000000
open Go.RowKit
set_option linter.unusedVariables false
set_option linter.unusedSimpArgs false
set_option maxRecDepth 100000
attribute [local go_sem ↓] Go.wp_at_zero Go.wp_at_succ
def RetAt (w:World) (p:Nat) (x:Rat) (en:Ending) (w':World):Prop:=∃ Z,AtB p Z x∧AbP Z (p + 20)∧RetD8 w (mkM Z (-(p:Int))) (mkE Z (-(p:Int))) en w'
theorem dv_neg9 {m e:Int} (h:Dv m e):Dv (-m) e:=by
 rcases h with ⟨h1,h2⟩ | ⟨h1,h2⟩
 ·exact Or.inl ⟨by omega,h2⟩
 ·refine Or.inr ⟨by omega,?_⟩
  unfold fits8 at *
  rwa [Int.natAbs_neg]
theorem nx_neg9 {Z x:Int} {j:Nat} (h:AbP Z j) (hj:j≤3000) (hx:-6000≤x∧x≤100):mkM (-Z) x = -(mkM Z x)∧mkE (-Z) x = mkE Z x:=by
 obtain ⟨a1,_,_,a4,a5⟩:=nx (x:=x) h (by omega) (by omega)
 obtain ⟨b1,_,_,b4,b5⟩:=nx (x:=x) h.neg (by omega) (by omega)
 exact dv_uniq b4 (dv_neg9 a4) (by rw [b5,dq_neg,dq_neg,a5])
theorem small_x {x:Rat} (p:Nat) (h0:0≤x) (h1:x≤1 / 1024):SmX (cutQ x (p:Int)) (cutQ x (p:Int) * cutQ x (p:Int) / 2 ^ p) p∧dq (cutQ x (p:Int)) (-(p:Int))≤x∧x≤dq (cutQ x (p:Int)) (-(p:Int)) + dq 1 (-(p:Int)):=by
 have c1:=cut_lo x (p:Int)
 have c2:=cut_hi x (p:Int)
 have n:=(quo_bd (p:=p) h0 (by grind)).2.2
 refine ⟨⟨n,?_,rfl⟩,c1,Rat.le_of_lt c2⟩
 refine (dq_le_iff _ _ (-(p:Int))).1 ?_
 have e:dq (cutQ x (p:Int) * 1024) (-(p:Int)) = dq (cutQ x (p:Int)) (-(p:Int)) * 1024:=by
  rw [dq_scale,dq_scale (cutQ x (p:Int)),Rat.intCast_mul]
  have:((1024:Int):Rat) = 1024:=rfl
  rw [this]
  grind
 rw [e,dq_scale (2 ^ p),two_cast]
 grind
theorem inv_cut {x:Rat} (p:Nat) (h0:0 < x) (h1:1≤x * 1024):0≤cutQ (1 / x) (p:Int)∧AbP (cutQ (1 / x) (p:Int)) (p + 10)∧dq (cutQ (1 / x) (p:Int)) (-(p:Int))≤x⁻¹∧x⁻¹≤dq (cutQ (1 / x) (p:Int)) (-(p:Int)) + dq 1 (-(p:Int)):=by
 have e:1 / x = x⁻¹:=by rw [Rat.div_def,Rat.one_mul]
 have i:=Rat.inv_mul_cancel x (Rat.ne_of_gt h0)
 have i0:=Rat.inv_pos.2 h0
 have i1:x⁻¹≤1024:=le_of_mul h0 (by rw [i];grind)
 obtain ⟨a,_,b⟩:=quo_bd (p:=p) (Rat.le_of_lt i0) i1
 rw [e]
 exact ⟨b,a,cut_lo _ _,Rat.le_of_lt (cut_hi _ _)⟩

theorem ttan_pos (m e:Int) (p:Nat) (vx:Value) (w:World) (hx:IsD w vx m e) (hv:Dv m e) (h0:0≤m) (lm:zl m≤100) (he:-4000≤e∧e≤4000) (hp:p≤700) (hT:Tab w) :
  Calls Tryz.prog 63 #[vx,.int .i64 (p:Int)] w (RetAt w p (dq m e)):=by
 obtain ⟨A,c,rfl,_,hn⟩:=hx.form
 have L0:=(Lq.mk0 w).n hn
 have HT:=Hd9 (fun W (hW:Below w.heap.size w W) => hT.mono hW)
 have gs:=fun v W h => dsign_any m e v W h (by omega)
 obtain ⟨sg,hsg⟩:=nm9 (cmpI m 0)
 have hs0:¬ sg < 0:=by rw [← hsg];unfold cmpI;(repeat' split) <;> omega
 rw [hsg] at gs
 have hpm:permB 10 = true:=by decide
 obtain ⟨y1,y2,y3⟩:=g_yes hpm 1
 have g1:=fun W (hW:Below w.heap.size w W) => gunit_any 10 W (by omega) (by omega) (hT.mono hW)
 rw [y1,y2,y3] at g1
 have l1:AbP 1 0:=by unfold AbP;decide
 obtain ⟨u1,u2,u3,u4,u5⟩:=nx (x := -10) l1 (by omega) (by omega)
 rw [u1] at g1
 have g2:=fun v u W h k => dcmp_any m e (mkM 1 (-10)) (mkE 1 (-10)) v u W h k (by omega) (by omega) (by omega) (by omega)
 have hc:=dcm_le m e (mkM 1 (-10)) (mkE 1 (-10))
 rw [u5,show dq 1 (-10) = 1 / 1024 by decide +kernel] at hc
 obtain ⟨sc,hsc⟩:=nm9 (dcm m e (mkM 1 (-10)) (mkE 1 (-10)))
 rw [show cmpI (m * 2 ^ (e - min e (mkE 1 (-10))).toNat) (mkM 1 (-10) * 2 ^ (mkE 1 (-10) - min e (mkE 1 (-10))).toNat) = dcm m e (mkM 1 (-10)) (mkE 1 (-10)) from rfl,hsc] at g2
 rw [hsc] at hc
 have hq0:0≤dq m e:=by have:=(dq_le_iff 0 m e).2 h0;rwa [dq_zero] at this
 obtain ⟨ML,hML⟩:=nm9 (mkM 1 (-10))
 obtain ⟨EL,hEL⟩:=nm9 (mkE 1 (-10))
 rw [hML,hEL] at g1 g2
 have GS:=Hd9 gs
 have G1:=Hd9 g1
 have G2:=Hd9 g2
 clear gs g1 g2 hsg y1 y2 y3 hpm l1 u1 u2 u3 u4 u5 hML hEL hsc hT hx hn
 by_cases hc0:sc≤0
 ·have hle:=hc.1 hc0
  have d1:decide (sc≤0) = true:=decide_eq_true hc0
  obtain ⟨hX,x1,x2⟩:=small_x p hq0 hle
  obtain ⟨X,hXe⟩:=nm9 (cutQ (dq m e) (p:Int))
  rw [hXe] at hX x1 x2
  have aX:=unit_ab hX.nn hX.lt
  obtain ⟨n1,n2,n3,n4,n5⟩:=nx (x := -(p:Int)) aX (by omega) (by omega)
  obtain ⟨y1,y2,y3⟩:=g_yes (permN (p:=p) (by omega)) X
  have g3:=fun x W h (hW:Below w.heap.size w W) => gfloor_any m e (p:Int) x W h (by omega) (by omega) (by omega) (by omega) (HT.out W hW)
  rw [hXe,y1,y2,y3,n1] at g3
  have g4:=fun x W h (hW:Below w.heap.size w W) => tser_any X (X * X / 2 ^ p) p x W h hX (by omega) (HT.out W hW)
  have HE:=Hd9 (fun n (hn:pwA (X * X / 2 ^ p) X p n = 0) (h6:n≤60) => And.intro (small_at hX hn (by omega) hq0 hle x1 x2) ((sm_ab hX (n:=n) (by omega)).up (show p≤p + 20 by omega)))
  obtain ⟨XM,hXM⟩:=nm9 (mkM X (-(p:Int)))
  obtain ⟨XE,hXE⟩:=nm9 (mkE X (-(p:Int)))
  rw [hXM,hXE] at g3 g4
  have G3:=Hd9 g3
  have G4:=Hd9 g4
  clear g3 g4 hXM hXE n1 n2 n3 n4 n5 y1 y2 y3 aX hX x1 x2 hXe hle hc hq0 lm he hp hv h0
  go_enter Tryz.func63,Tryz.ntmps63
  have L:=((L0.varD (w.heap.size) (by simp) (ng m) A (zl m) c e).varD (w.heap.size + 1) (by simp) false none 0 0 0)
  obtain ⟨c10,c11,c12⟩:=L.tl.b0.a3
  (try go_wp2_with fail)
  refine (GS.out _ _ (isD_n (m:=m) (e:=e) (s:=.slice A (zl m) c) (L.getN (by simp)))).mono ?_
  rintro e w1 ⟨rfl,be⟩
  clear c10 c11 c12
  replace L:=L.step be
  clear be
  (try go_wp2_with fail)
  refine (G1.out _ L.below).mono ?_
  rintro e w2 ⟨v9,rfl,iz,be⟩
  obtain ⟨A1,c1,rfl,_,in9⟩:=iz.form
  replace L:=(L.step be).n in9
  clear be iz in9
  have hl9:=L.b0.lt
  replace L:=L.varD w2.heap.size rfl (ng ML) A1 (zl ML) c1 EL
  obtain ⟨c00,c01,c02⟩:=L.b0.a3
  obtain ⟨c20,c21,c22⟩:=L.tl.tl.b0.a3
  (try go_wp2_with fail)
  clear c00 c01 c02 c20 c21 c22
  obtain ⟨gl,hgl⟩:=nm9 (w2.heap.size)
  rw [hgl] at L hl9 ⊢
  clear hgl
  have hl_gl:=hl9
  clear hl9
  refine (G2.out _ _ _ (isD_n (m:=m) (e:=e) (s:=.slice A (zl m) c) (L.getN (by simp))) (isD_n (m:=ML) (e:=EL) (s:=.slice A1 (zl ML) c1) (L.getN (by simp)))).mono ?_
  rintro e w3 ⟨rfl,be⟩
  replace L:=L.step be
  clear be
  obtain ⟨c20,c21,c22⟩:=L.tl.tl.b0.a3
  (try go_wp2_with fail)
  refine (G3.out _ _ (isD_n (m:=m) (e:=e) (s:=.slice A (zl m) c) (L.getN (by simp))) L.below).mono ?_
  rintro e w4 ⟨v9,rfl,iz,be⟩
  clear c20 c21 c22
  obtain ⟨A2,c2,rfl,_,in9⟩:=iz.form
  replace L:=(L.step be).n in9
  clear be iz in9
  have hl9:=L.b0.lt
  replace L:=L.varD w4.heap.size rfl (ng XM) A2 (zl XM) c2 XE
  obtain ⟨c00,c01,c02⟩:=L.b0.a3
  (try go_wp2_with fail)
  clear c00 c01 c02
  obtain ⟨gx,hgx⟩:=nm9 (w4.heap.size)
  rw [hgx] at L hl9 ⊢
  clear hgx
  have hl_gx:=hl9
  clear hl9
  refine (G4.out _ _ (isD_n (m:=XM) (e:=XE) (s:=.slice A2 (zl XM) c2) (L.getN (by simp))) L.below).mono ?_
  rintro e w5 ⟨n,hn6,hn0,v9,rfl,iz,be⟩
  obtain ⟨A5,c5,rfl,_,in9⟩:=iz.form
  replace L:=(L.step be).n in9
  clear be iz in9
  obtain ⟨hr1,hr2⟩:=HE.out n hn0 hn6
  generalize smA (X * X / 2 ^ p) X p n = Z at *
  have L9:=L.subx (ns':=[(.slice A5 (zl (mkM Z (-(p:Int)))) c5,(mkM Z (-(p:Int))).natAbs)]) (bs':=[(w.heap.size + 1,26,#[.bool false,.slice none 0 0,.int .i64 0])]) (by simp) (by simp)
  clear L
  have L:=L9
  clear L9
  obtain ⟨c00,c01,c02⟩:=L.b0.a3
  obtain ⟨f00,f01,f02⟩:=L.b0.f3
  (try go_wp2_with fail)
  clear c00 f00 c01 f01 c02 f02
  have LP:=L.putD (by omega) (by first | (simp;done) | (simp;omega)) (ng (mkM Z (-(p:Int)))) A5 (zl (mkM Z (-(p:Int)))) c5 (mkE Z (-(p:Int)))
  obtain ⟨k0,k1,k2⟩:=LP.b0.a3
  unfold put3 at k0 k1 k2
  exact bodyPost_ret (v:=.agg #[.bool (ng (mkM Z (-(p:Int)))),.slice A5 (zl (mkM Z (-(p:Int)))) c5,.int .i64 (mkE Z (-(p:Int)))]) (by simp [results,Tryz.results63,go_sem,k0,k1,k2]) rfl ⟨Z,hr1,hr2,_,rfl,isD_n (LP.getN (by simp)),LP.below⟩
 ·have hgt:1 / 1024 < dq m e:=by
   refine Rat.not_le.1 fun h => hc0 (hc.2 h)
  have d1:decide (sc≤0) = false:=decide_eq_false hc0
  have h1024:1≤dq m e * 1024:=by grind
  have hpos:0 < dq m e:=by grind
  obtain ⟨i0,i1,i2,i3⟩:=inv_cut p hpos h1024
  obtain ⟨C,hCe⟩:=nm9 (cutQ (1 / dq m e) (p:Int))
  rw [hCe] at i0 i1 i2 i3
  have l1:AbP 1 0:=by unfold AbP;decide
  obtain ⟨u1,u2,u3,u4,u5⟩:=nx (x:=0) l1 (by omega) (by omega)
  have one:dq 1 0 = 1:=by decide +kernel
  have g3:=fun W (hW:Below w.heap.size w W) => dof_any 1 W (by omega) (by omega) (HT.out W hW)
  have g4:=fun x y W h i (hW:Below w.heap.size w W) => tquot_any (mkM 1 0) (mkE 1 0) m e C p x y W h i u4 hv (by omega) (by omega) (by omega) (by omega) (by rw [u5,one];decide) (by rw [u5,one];exact Rat.le_refl) h1024 (by rw [u5,one];exact hCe) (by omega) (HT.out W hW)
  have g5:=fun x W h (hW:Below w.heap.size w W) => tangle_any C p x W h i0 (i1.up (by omega)) (by omega) (HT.out W hW)
  have HE:=Hd9 (fun Z (h:AgI p C Z) => h.at hpos i2 i3)
  obtain ⟨XM,hXM⟩:=nm9 (mkM C (-(p:Int)))
  obtain ⟨XE,hXE⟩:=nm9 (mkE C (-(p:Int)))
  rw [hXM,hXE] at g4 g5
  obtain ⟨M1,hM1⟩:=nm9 (mkM 1 0)
  obtain ⟨E1,hE1⟩:=nm9 (mkE 1 0)
  rw [hM1,hE1] at g3 g4
  have G3:=Hd9 g3
  have G4:=Hd9 g4
  have G5:=Hd9 g5
  clear g3 g4 g5 hXM hXE hM1 hE1 l1 u1 u2 u3 u4 u5 one i0 i1 i2 i3 hCe h1024 hpos hgt hc hq0 lm he hp hv h0
  go_enter Tryz.func63,Tryz.ntmps63
  have L:=((L0.varD (w.heap.size) (by simp) (ng m) A (zl m) c e).varD (w.heap.size + 1) (by simp) false none 0 0 0)
  obtain ⟨c10,c11,c12⟩:=L.tl.b0.a3
  (try go_wp2_with fail)
  refine (GS.out _ _ (isD_n (m:=m) (e:=e) (s:=.slice A (zl m) c) (L.getN (by simp)))).mono ?_
  rintro e w1 ⟨rfl,be⟩
  clear c10 c11 c12
  replace L:=L.step be
  clear be
  (try go_wp2_with fail)
  refine (G1.out _ L.below).mono ?_
  rintro e w2 ⟨v9,rfl,iz,be⟩
  obtain ⟨A1,c1,rfl,_,in9⟩:=iz.form
  replace L:=(L.step be).n in9
  clear be iz in9
  have hl9:=L.b0.lt
  replace L:=L.varD w2.heap.size rfl (ng ML) A1 (zl ML) c1 EL
  obtain ⟨c00,c01,c02⟩:=L.b0.a3
  obtain ⟨c20,c21,c22⟩:=L.tl.tl.b0.a3
  (try go_wp2_with fail)
  clear c00 c01 c02 c20 c21 c22
  obtain ⟨gl,hgl⟩:=nm9 (w2.heap.size)
  rw [hgl] at L hl9 ⊢
  clear hgl
  have hl_gl:=hl9
  clear hl9
  refine (G2.out _ _ _ (isD_n (m:=m) (e:=e) (s:=.slice A (zl m) c) (L.getN (by simp))) (isD_n (m:=ML) (e:=EL) (s:=.slice A1 (zl ML) c1) (L.getN (by simp)))).mono ?_
  rintro e w3 ⟨rfl,be⟩
  replace L:=L.step be
  clear be
  have L9:=L.subx (ns':=[(.slice A (zl m) c,m.natAbs)]) (bs':=[(w.heap.size + 1,26,#[.bool false,.slice none 0 0,.int .i64 0]),(w.heap.size,26,#[.bool (ng m),.slice A (zl m) c,.int .i64 e])]) (by simp) (by simp)
  clear L
  have L:=L9
  clear L9
  replace L:=L.drew
  (try go_wp2_with fail)
  have LD:=L
  clear L
  obtain ⟨c00,c01,c02⟩:=LD.b0.a3
  obtain ⟨f00,f01,f02⟩:=LD.b0.f3
  obtain ⟨c10,c11,c12⟩:=LD.tl.b0.a3
  go_cut [] from 34 to 39 (fun wx => ∃ Z A8 c8,(AgI p C Z∧AbP Z (p + 20))∧Lq w wx [(.slice A8 (zl (mkM Z (-(p:Int)))) c8,(mkM Z (-(p:Int))).natAbs)] [] [] [(w.heap.size + 1,26,#[.bool (ng (mkM Z (-(p:Int)))),.slice A8 (zl (mkM Z (-(p:Int)))) c8,.int .i64 (mkE Z (-(p:Int)))])])
  case first =>
   go_region_with (first | (go_at_call 111;(with_reducible refine (G3.out _ LD.below).mono ?_);rintro e9 wh ⟨vh,rfl,id,be⟩;obtain ⟨A7,c7,rfl,_,in9⟩:=id.form;replace LD:=(LD.step be).n in9;clear be id in9;(try (have r0:=LD.b0.c30;have t0:=LD.b0.fr 0;have s0:=LD.tl.b0.c30;have r1:=LD.b0.c31;have t1:=LD.b0.fr 1;have s1:=LD.tl.b0.c31;have r2:=LD.b0.c32;have t2:=LD.b0.fr 2;have s2:=LD.tl.b0.c32))) | (go_at_call 120;(with_reducible refine (G4.out _ _ _ ?_ ?_ LD.below).mono ?_);(· (refine isD_n (LD.getN ?_) <;> (repeat (first | (with_reducible exact mS) | apply mT))));(· (refine isD_n (LD.getN ?_) <;> (repeat (first | (with_reducible exact mS) | apply mT))));rintro e9 wh ⟨vh,rfl,id,be⟩;obtain ⟨A9,c9,rfl,_,in9⟩:=id.form;replace LD:=(LD.step be).n in9;clear be id in9;(try (have r0:=LD.b0.c30;have t0:=LD.b0.fr 0;have s0:=LD.tl.b0.c30;have r1:=LD.b0.c31;have t1:=LD.b0.fr 1;have s1:=LD.tl.b0.c31;have r2:=LD.b0.c32;have t2:=LD.b0.fr 2;have s2:=LD.tl.b0.c32))) | (go_at_call 110;(with_reducible refine (G5.out _ _ ?_ LD.below).mono ?_);(· (refine isD_n (LD.getN ?_) <;> (repeat (first | (with_reducible exact mS) | apply mT))));rintro e9 wh ⟨Z,hz1,hz2,vh,rfl,id,be⟩;obtain ⟨A8,c8,rfl,_,in9⟩:=id.form;replace LD:=(LD.step be).n in9;clear be id in9;(try (have r0:=LD.b0.c30;have t0:=LD.b0.fr 0;have s0:=LD.tl.b0.c30;have r1:=LD.b0.c31;have t1:=LD.b0.fr 1;have s1:=LD.tl.b0.c31;have r2:=LD.b0.c32;have t2:=LD.b0.fr 2;have s2:=LD.tl.b0.c32))))
   all_goals
    have LP:=LD.putD (by omega) (by first | (simp;done) | (simp;omega)) (ng (mkM Z (-(p:Int)))) A8 (zl (mkM Z (-(p:Int)))) c8 (mkE Z (-(p:Int)))
    unfold put3 at LP
    go_wp2_with fail
    go_meet
    exact ⟨Z,A8,c8,⟨hz1,hz2⟩,LP.subx (by simp) (by simp)⟩
  case rest =>
   obtain ⟨Z,A8,c8,⟨hz1,hz2⟩,L⟩:=hcut
   generalize wc = wd0 at *
   clear LD
   obtain ⟨k0,k1,k2⟩:=L.b0.a3
   (try go_wp2_with fail)
   exact bodyPost_ret (v:=.agg #[.bool (ng (mkM Z (-(p:Int)))),.slice A8 (zl (mkM Z (-(p:Int)))) c8,.int .i64 (mkE Z (-(p:Int)))]) (by simp [results,Tryz.results63,go_sem,k0,k1,k2]) rfl ⟨Z,HE.out Z hz1,hz2,_,rfl,isD_n (L.getN (by simp)),L.below⟩
theorem ttan_any (m e:Int) (p:Nat) (vx:Value) (w:World) (hx:IsD w vx m e) (hv:Dv m e) (lm:zl m≤100) (he:-4000≤e∧e≤4000) (hp:p≤700) (hT:Tab w) :
  Calls Tryz.prog 63 #[vx,.int .i64 (p:Int)] w (RetAt w p (dq m e)):=by
 by_cases h0:0≤m
 ·exact ttan_pos m e p vx w hx hv h0 lm he hp hT
 obtain ⟨A,c,rfl,_,hn⟩:=hx.form
 have L0:=(Lq.mk0 w).n hn
 have zn:=zl_neg m
 have gs:=fun v W h => dsign_any m e v W h (by omega)
 obtain ⟨sg,hsg⟩:=nm9 (cmpI m 0)
 have hs0:sg < 0:=by rw [← hsg,cmpI_lt (by omega)];decide
 rw [hsg] at gs
 have g1:=fun v W h => dneg_any m e v W h (by omega)
 have g2:=fun x W h (hW:Below w.heap.size w W) => ttan_pos (-m) e p x W h (dv_neg9 hv) (by omega) (by omega) he hp (hT.mono hW)
 rw [dq_neg] at g2
 have HQ:=Hd9 hp
 have GS:=Hd9 gs
 have G1:=Hd9 g1
 have G2:=Hd9 g2
 have d1:decide (sg < 0) = true:=decide_eq_true hs0
 obtain ⟨mn,hmn⟩:=nm9 (-m)
 rw [hmn] at G1 G2
 clear gs g1 g2 hsg hT hx hn hv lm he hp zn h0 hmn
 go_enter Tryz.func63,Tryz.ntmps63
 have L:=((L0.varD (w.heap.size) (by simp) (ng m) A (zl m) c e).varD (w.heap.size + 1) (by simp) false none 0 0 0)
 obtain ⟨c10,c11,c12⟩:=L.tl.b0.a3
 (try go_wp2_with fail)
 refine (GS.out _ _ (isD_n (m:=m) (e:=e) (s:=.slice A (zl m) c) (L.getN (by simp)))).mono ?_
 rintro e w1 ⟨rfl,be⟩
 clear c10 c11 c12
 replace L:=L.step be
 clear be
 obtain ⟨c10,c11,c12⟩:=L.tl.b0.a3
 (try go_wp2_with fail)
 refine (G1.out _ _ (isD_n (m:=m) (e:=e) (s:=.slice A (zl m) c) (L.getN (by simp)))).mono ?_
 rintro e w2 ⟨v9,rfl,iz,be⟩
 clear c10 c11 c12
 obtain ⟨A1,c1,rfl,_,in9⟩:=iz.form
 replace L:=(L.step be).n in9
 clear be iz in9
 (try go_wp2_with fail)
 refine (G2.out _ _ (isD_n (m:=mn) (e:=e) (s:=.slice A1 (zl mn) c1) (L.getN (by simp))) L.below).mono ?_
 rintro e w3 ⟨Z,hz1,hz2,v9,rfl,iz,be⟩
 obtain ⟨A5,c5,rfl,_,in9⟩:=iz.form
 replace L:=(L.step be).n in9
 clear be iz in9
 have hp:=HQ.out
 obtain ⟨t1,t2,t3,t4,t5⟩:=nx (x := -(p:Int)) hz2 (by omega) (by omega)
 obtain ⟨v1,v2⟩:=nx_neg9 (x := -(p:Int)) hz2 (by omega) (by omega)
 have g3:=fun v W h => dneg_any (mkM Z (-(p:Int))) (mkE Z (-(p:Int))) v W h (by omega)
 rw [← v1,← v2] at g3
 have hr1:=hz1.neg
 rw [Rat.neg_neg] at hr1
 have HR:=Hd9 (And.intro hr1 hz2.neg)
 clear t1 t2 t3 t4 t5 hr1 hz1 hz2
 rw [← v2]
 rw [v2] at g3 ⊢
 clear v1
 obtain ⟨MZ,hMZ⟩:=nm9 (mkM Z (-(p:Int)))
 rw [hMZ] at g3 L ⊢
 obtain ⟨EZ,hEZ⟩:=nm9 (mkE Z (-(p:Int)))
 rw [hEZ] at g3 v2 ⊢
 have HV:=Hd9 v2
 clear v2 hMZ hEZ
 have G3:=Hd9 g3
 clear g3
 (try go_wp2_with fail)
 refine (G3.out _ _ (isD_n (m:=MZ) (e:=EZ) (s:=.slice A5 (zl MZ) c5) (L.getN (by simp)))).mono ?_
 rintro e w4 ⟨v9,rfl,iz,be⟩
 obtain ⟨A6,c6,rfl,_,in9⟩:=iz.form
 replace L:=(L.step be).n in9
 clear be iz in9
 have L9:=L.subx (ns':=[(.slice A6 (zl (mkM (-Z) (-(p:Int)))) c6,(mkM (-Z) (-(p:Int))).natAbs)]) (bs':=[(w.heap.size + 1,26,#[.bool false,.slice none 0 0,.int .i64 0])]) (by simp) (by simp)
 clear L
 have L:=L9
 clear L9
 obtain ⟨c00,c01,c02⟩:=L.b0.a3
 obtain ⟨f00,f01,f02⟩:=L.b0.f3
 (try go_wp2_with fail)
 clear c00 f00 c01 f01 c02 f02
 obtain ⟨hr1,hr2⟩:=HR.out
 have v2:=HV.out
 have LP:=L.putD (by omega) (by first | (simp;done) | (simp;omega)) (ng (mkM (-Z) (-(p:Int)))) A6 (zl (mkM (-Z) (-(p:Int)))) c6 (EZ)
 obtain ⟨k0,k1,k2⟩:=LP.b0.a3
 unfold put3 at k0 k1 k2
 exact bodyPost_ret (v:=.agg #[.bool (ng (mkM (-Z) (-(p:Int)))),.slice A6 (zl (mkM (-Z) (-(p:Int)))) c6,.int .i64 (EZ)]) (by simp [results,Tryz.results63,go_sem,k0,k1,k2]) rfl ⟨-Z,hr1,hr2,_,rfl,by rw [v2];exact isD_n (LP.getN (by simp)),LP.below⟩

theorem atLo_cut {S:Int} {k p:Nat} (hp:p = k + 32):cutQ (dq (S - 2097152) (-(p:Int))) (k:Int) = atLo S:=cutD_down 32 (by omega)
theorem atHi_cut {S:Int} {k p:Nat} (hp:p = k + 32):-(cutQ (-(dq (S + 2097152) (-(p:Int)))) (k:Int)) = atHi S:=by
 rw [← dq_neg,cutD_down 32 (by omega)]
 rfl
theorem at_margin {p q:Nat} (h:q + 21 = p) (hp:p≤3000):mkM 1 (-(q:Int)) = mkM 2097152 (-(p:Int))∧mkE 1 (-(q:Int)) = mkE 2097152 (-(p:Int))∧mkR 1 (-(q:Int)) = 0:=by
 obtain ⟨a1,_⟩:=nx (T:=1) (x := -(q:Int)) (j:=0) (by unfold AbP;decide) (by omega) (by omega)
 obtain ⟨b1,_⟩:=nx (T:=2097152) (x := -(p:Int)) (j:=21) (by unfold AbP;decide) (by omega) (by omega)
 have:=mk_uniq a1 b1 (by
  refine dq_eq (F := -(p:Int)) ?_ (by omega) (by omega)
  rw [show (-(q:Int) - -(p:Int)).toNat = 21 by omega,show (-(p:Int) - -(p:Int)).toNat = 0 by omega]
  decide)
 exact ⟨this.1,this.2,a1⟩
theorem at_size {Z:Int} {k p:Nat} (hp:p = k + 32) (h:AbP Z (p + 20)):AbP (atLo Z) (k + 21)∧AbP (atHi Z) (k + 21):=by
 have e1:(2:Nat) ^ (p + 20) = 2 ^ k * 4503599627370496:=by rw [hp,show k + 32 + 20 = k + 52 by omega,Nat.pow_add]
 have e2:(2:Nat) ^ (k + 21) = 2 ^ k * 2097152:=by rw [Nat.pow_add]
 have pp:0 < (2:Nat) ^ k:=Nat.pow_pos (by omega)
 have e3:(2:Int) ^ 32 = 4294967296:=rfl
 unfold AbP atLo atHi at *
 rw [e1] at h
 rw [e2,e3]
 generalize (2:Nat) ^ k = P at *
 constructor <;> omega
theorem at_tight (Z:Int):atLo Z≤atHi Z∧atHi Z≤atLo Z + 2:=by
 have e3:(2:Int) ^ 32 = 4294967296:=rfl
 unfold atLo atHi
 rw [e3]
 constructor <;> omega
theorem okA_yes {k:Nat} (h:k≤4096):okA (k:Int) = true:=by
 unfold okA
 rw [decide_eq_true (show (0:Int)≤(k:Int) by omega),decide_eq_true (show (k:Int)≤4096 by omega)]
 rfl
def RetTn (w:World) (k:Nat) (m e n f:Int) (en:Ending) (w':World):Prop:=∃ a b:Int,(EaA k a (dq m e)∧EaB k b (dq n f)∧AbP a (k + 21)∧AbP b (k + 21))∧RetIE w (mkM a (-(k:Int))) (mkE a (-(k:Int))) (mkM b (-(k:Int))) (mkE b (-(k:Int))) 0 en w'
theorem taround_any (Z1 Z2:Int) (k p:Nat) (vx vy:Value) (w:World) (hx:IsD w vx (mkM Z1 (-(p:Int))) (mkE Z1 (-(p:Int)))) (hy:IsD w vy (mkM Z2 (-(p:Int))) (mkE Z2 (-(p:Int)))) (h1:AbP Z1 (p + 20)) (h2:AbP Z2 (p + 20)) (hp:p = k + 32) (hk:k≤600) (hT:Tab w) :
  Calls Tryz.prog 65 #[vx,vy,.int .i64 (k:Int)] w (RetIE w (mkM (atLo Z1) (-(k:Int))) (mkE (atLo Z1) (-(k:Int))) (mkM (atHi Z2) (-(k:Int))) (mkE (atHi Z2) (-(k:Int))) 0):=by
 obtain ⟨A,c,rfl,_,hn⟩:=hx.form
 obtain ⟨B,d,rfl,_,hn2⟩:=hy.form
 have L0:=((Lq.mk0 w).n hn2).n hn
 obtain ⟨q,hq⟩:=nm9 (k + 11)
 obtain ⟨u1,u2,u3⟩:=at_margin (p:=p) (q:=q) (by omega) (by omega)
 obtain ⟨y1,y2,y3⟩:=g_yes (permN (p:=q) (by omega)) 1
 have g8:=fun W (hW:Below w.heap.size w W) => gunit_any (q:Int) W (by omega) (by omega) (hT.mono hW)
 rw [y1,y2,y3,u1,u2,u3] at g8
 have w1:IntKind.i64.wrap ((k:Int) + 32) = (p:Int):=by rw [IntKind.wrap_i64];omega
 have w2:IntKind.i64.wrap ((p:Int) - 21) = (q:Int):=by rw [IntKind.wrap_i64];omega
 have a15:AbP 2097152 (p + 20):=AbP.up (j:=21) (by unfold AbP;decide) (by omega)
 have hpy:-6000≤-(p:Int)∧-(p:Int)≤100:=by omega
 have hpc:-4500≤-(p:Int)∧-(p:Int)≤0:=by omega
 obtain ⟨r1,r2,r3,_,_⟩:=nxc 10000 h1 (by omega) hpc (by omega) (by omega)
 obtain ⟨s1,s2,s3,_,_⟩:=nxc 10000 h2 (by omega) hpc (by omega) (by omega)
 obtain ⟨t1,t2,t3,_,_⟩:=nxc 10000 a15 (by omega) hpc (by omega) (by omega)
 obtain ⟨b1,b2,b3⟩:=nx_sub h1 a15 (by omega) hpy
 have g9:=fun x y W h i (hW:Below w.heap.size w W) => dsub_any (mkM Z1 (-(p:Int))) (mkE Z1 (-(p:Int))) (mkM 2097152 (-(p:Int))) (mkE 2097152 (-(p:Int))) x y W h i (by omega) (by omega) (by omega) (by omega) (hT.mono hW)
 rw [b1,b2,b3] at g9
 have al:AbP (Z1 - 2097152) (p + 21):=by rw [Int.sub_eq_add_neg];exact h1.add a15.neg
 obtain ⟨l1,l2,l3,l4,l5⟩:=nxc 10000 al (by omega) hpc (by omega) (by omega)
 obtain ⟨c1',c2',c3'⟩:=nx_add h2 a15 (by omega) hpy
 have g10:=fun x y W h i (hW:Below w.heap.size w W) => dadd_any (mkM Z2 (-(p:Int))) (mkE Z2 (-(p:Int))) (mkM 2097152 (-(p:Int))) (mkE 2097152 (-(p:Int))) x y W h i (by omega) (by omega) (by omega) (by omega) (hT.mono hW)
 rw [c1',c2',c3'] at g10
 have ah:AbP (Z2 + 2097152) (p + 21):=h2.add a15
 obtain ⟨k1,k2,k3,k4,k5⟩:=nxc 10000 ah (by omega) hpc (by omega) (by omega)
 obtain ⟨la,_⟩:=at_size hp h1
 obtain ⟨_,lb⟩:=at_size hp h2
 obtain ⟨ra,_⟩:=nx (x := -(k:Int)) la (by omega) (by omega)
 obtain ⟨rb,_⟩:=nx (x := -(k:Int)) lb (by omega) (by omega)
 have ca:=atLo_cut (S:=Z1) hp
 have cb:=atHi_cut (S:=Z2) hp
 have g11:=fun x W h (hW:Below w.heap.size w W) => i10out_yes (mkM (Z1 - 2097152) (-(p:Int))) (mkE (Z1 - 2097152) (-(p:Int))) (mkM (Z2 + 2097152) (-(p:Int))) (mkE (Z2 + 2097152) (-(p:Int))) (k:Int) x W h (by omega) (by omega) (by omega) (by omega) (by omega) (by omega) (permN (by omega)) (by rw [l5,ca];exact ra) (by rw [k5,cb];exact rb) (hT.mono hW)
 rw [l5,k5,ca,cb] at g11
 clear ca cb ra rb la lb l1 l2 l3 l4 l5 k1 k2 k3 k4 k5 al ah b1 b2 b3 c1' c2' c3' r1 r2 r3 s1 s2 s3 t1 t2 t3 a15 hpy hpc u1 u2 u3 y1 y2 y3 h1 h2 hp hk hT hx hy hn hn2 hq
 generalize mkM (Z1 - 2097152) (-(p:Int)) = Mo at *
 generalize mkE (Z1 - 2097152) (-(p:Int)) = Eo at *
 generalize mkM (Z2 + 2097152) (-(p:Int)) = Mi at *
 generalize mkE (Z2 + 2097152) (-(p:Int)) = Ei at *
 generalize mkM (atLo Z1) (-(k:Int)) = Ma at *
 generalize mkE (atLo Z1) (-(k:Int)) = Ea at *
 generalize mkM (atHi Z2) (-(k:Int)) = Nb at *
 generalize mkE (atHi Z2) (-(k:Int)) = Fb at *
 generalize mkM Z1 (-(p:Int)) = M1 at *
 generalize mkE Z1 (-(p:Int)) = E1 at *
 generalize mkM Z2 (-(p:Int)) = M2 at *
 generalize mkE Z2 (-(p:Int)) = E2 at *
 generalize mkM 2097152 (-(p:Int)) = Mu at *
 generalize mkE 2097152 (-(p:Int)) = Eu at *
 have G8:=Hd9 g8
 have G9:=Hd9 g9
 have G10:=Hd9 g10
 have G11:=Hd9 g11
 clear g8 g9 g10 g11
 go_enter Tryz.func65,Tryz.ntmps65
 have L:=(((L0.varD (w.heap.size) (by simp) (ng M1) A (zl M1) c E1).varD (w.heap.size + 1) (by simp) (ng M2) B (zl M2) d E2).varI (w.heap.size + 2) (by simp) false none 0 0 0 false none 0 0 0)
 obtain ⟨c20,c21,c22⟩:=L.tl.tl.b0.a3
 (try go_wp2_with fail)
 refine (G8.out _ L.below).mono ?_
 rintro e w1 ⟨v9,rfl,iz,be⟩
 clear c20 c21 c22
 obtain ⟨A4,c4,rfl,_,in9⟩:=iz.form
 replace L:=(L.step be).n in9
 clear be iz in9
 have hl9:=L.b0.lt
 replace L:=L.varD w1.heap.size rfl (ng Mu) A4 (zl Mu) c4 Eu
 obtain ⟨c00,c01,c02⟩:=L.b0.a3
 obtain ⟨c30,c31,c32⟩:=L.tl.tl.tl.b0.a3
 go_wp2_with fail
 clear c00 c01 c02 c30 c31 c32
 obtain ⟨gm,hgm⟩:=nm9 (w1.heap.size)
 rw [hgm] at L hl9 ⊢
 clear hgm
 have hl_gm:=hl9
 clear hl9
 refine (G9.out _ _ _ (isD_n (m:=M1) (e:=E1) (s:=.slice A (zl M1) c) (L.getN (by simp))) (isD_n (m:=Mu) (e:=Eu) (s:=.slice A4 (zl Mu) c4) (L.getN (by simp))) L.below).mono ?_
 rintro e w2 ⟨v9,rfl,iz,be⟩
 obtain ⟨A5,c5,rfl,_,in9⟩:=iz.form
 replace L:=(L.step be).n in9
 clear be iz in9
 have hl9:=L.b0.lt
 replace L:=L.varD w2.heap.size rfl (ng Mo) A5 (zl Mo) c5 Eo
 obtain ⟨c10,c11,c12⟩:=L.tl.b0.a3
 obtain ⟨c30,c31,c32⟩:=L.tl.tl.tl.b0.a3
 go_wp2_with fail
 clear c10 c11 c12 c30 c31 c32
 obtain ⟨gl,hgl⟩:=nm9 (w2.heap.size)
 rw [hgl] at L hl9 ⊢
 clear hgl
 have hl_gl:=hl9
 clear hl9
 refine (G10.out _ _ _ (isD_n (m:=M2) (e:=E2) (s:=.slice B (zl M2) d) (L.getN (by simp))) (isD_n (m:=Mu) (e:=Eu) (s:=.slice A4 (zl Mu) c4) (L.getN (by simp))) L.below).mono ?_
 rintro e w3 ⟨v9,rfl,iz,be⟩
 obtain ⟨A6,c6,rfl,_,in9⟩:=iz.form
 replace L:=(L.step be).n in9
 clear be iz in9
 have hl9:=L.b0.lt
 replace L:=L.varD w3.heap.size rfl (ng Mi) A6 (zl Mi) c6 Ei
 obtain ⟨c00,c01,c02⟩:=L.b0.a3
 obtain ⟨c10,c11,c12⟩:=L.tl.b0.a3
 go_wp2_with fail
 clear c00 c01 c02 c10 c11 c12
 obtain ⟨gh,hgh⟩:=nm9 (w3.heap.size)
 rw [hgh] at L hl9 ⊢
 clear hgh
 have hl_gh:=hl9
 clear hl9
 refine (G11.out _ _ (isI_n (m:=Mo) (e:=Eo) (n:=Mi) (f:=Ei) (s:=.slice A5 (zl Mo) c5) (t:=.slice A6 (zl Mi) c6) (L.getN (by simp)) (L.getN (by simp))) L.below).mono ?_
 rintro e w4 ⟨v2,rfl,ii,be⟩
 obtain ⟨A8,c8,B8,d8,rfl,ia,ib⟩:=ii.form
 replace L:=((L.step be).n ib).n ia
 clear be ii ia ib
 have L9:=L.subx (ns':=[(.slice A8 (zl Ma) c8,Ma.natAbs),(.slice B8 (zl Nb) d8,Nb.natAbs)]) (bs':=[(w.heap.size + 1 + 1,28,#[.bool false,.slice none 0 0,.int .i64 0,.bool false,.slice none 0 0,.int .i64 0])]) (by simp) (by simp)
 clear L
 have L:=L9
 clear L9
 obtain ⟨c00,c01,c02,c03,c04,c05⟩:=L.b0.a6
 obtain ⟨f00,f01,f02,f03,f04,f05⟩:=L.b0.f6
 go_wp2_with fail
 clear c00 f00 c01 f01 c02 f02 c03 f03 c04 f04 c05 f05
 have LP:=L.putI (by omega) (by first | (simp;done) | (simp;omega)) (ng Ma) A8 (zl Ma) c8 Ea (ng Nb) B8 (zl Nb) d8 Fb
 obtain ⟨k0,k1,k2,k3,k4,k5⟩:=LP.b0.a6
 unfold put6 at k0 k1 k2 k3 k4 k5
 exact bodyPost_ret (v:=.tuple #[.agg #[.bool (ng Ma),.slice A8 (zl Ma) c8,.int .i64 Ea,.bool (ng Nb),.slice B8 (zl Nb) d8,.int .i64 Fb],.int .i64 0]) (by simp [results,Tryz.results65,go_sem,k0,k1,k2,k3,k4,k5]) rfl ⟨_,rfl,isI_n (LP.getN (by simp)) (LP.getN (by simp)),LP.below⟩
theorem tatan_arg (m e n f k:Int) (vx:Value) (w:World) (hx:IsI w vx m e n f) (hk:okA k = false) :
  Calls Tryz.prog 16 #[vx,.int .i64 k] w (RetIE w 0 0 0 0 1):=by
 obtain ⟨A,c,B,d,rfl,hn1,hn2⟩:=hx.form
 have L0:=((Lq.mk0 w).n hn2).n hn1
 have HP0:=fun W => tperm_any k W
 rw [hk] at HP0
 have HP:=Hd9 HP0
 clear HP0 hx
 go_enter Tryz.func16,Tryz.ntmps16
 have L:=((L0.varI (w.heap.size) (by simp) (ng m) A (zl m) c e (ng n) B (zl n) d f).varI (w.heap.size + 1) (by simp) false none 0 0 0 false none 0 0 0)
 obtain ⟨c00,c01,c02,c03,c04,c05⟩:=L.b0.a6
 obtain ⟨f00,f01,f02,f03,f04,f05⟩:=L.b0.f6
 (try go_wp2_with fail)
 refine (HP.out _).mono ?_
 rintro e9 w' ⟨rfl,rfl⟩
 (try go_wp2_with fail)
 exact bodyPost_ret (v:=.tuple #[.agg #[.bool false,.slice none 0 0,.int .i64 0,.bool false,.slice none 0 0,.int .i64 0],.int .i64 1]) (by simp [results,Tryz.results16,go_sem,c00,c01,c02,c03,c04,c05]) rfl ⟨_,rfl,isI_zero _,L.below⟩
theorem tatan_yes (m e n f:Int) (k:Nat) (vx:Value) (w:World) (hx:IsI w vx m e n f) (lm:zl m≤100) (ln:zl n≤100) (he:-4000≤e∧e≤4000) (hf:-4000≤f∧f≤4000) (hv:Dv m e) (hv2:Dv n f) (hsm:smallB m e n f = true) (hk:k≤600) (hT:Tab w) :
  Calls Tryz.prog 16 #[vx,.int .i64 (k:Int)] w (RetTn w k m e n f):=by
 obtain ⟨A,c,B,d,rfl,hn1,hn2⟩:=hx.form
 have L0:=((Lq.mk0 w).n hn2).n hn1
 have HT:=Hd9 (fun W (hW:Below w.heap.size w W) => hT.mono hW)
 have HP0:=fun W => tperm_any (k:Int) W
 rw [okA_yes (by omega)] at HP0
 have HP:=Hd9 HP0
 have hmn:dcm m e n f≤0:=by
  unfold smallB at hsm
  rw [Bool.and_eq_true] at hsm
  exact of_decide_eq_true hsm.1
 have g3:=fun x W h => asmall_any m e n f x W h (by omega) (by omega) (by omega) (by omega) hv hv2
 rw [hsm] at g3
 obtain ⟨p,hp⟩:=nm9 (k + 32)
 have w1:IntKind.i64.wrap ((k:Int) + 32) = (p:Int):=by rw [IntKind.wrap_i64];omega
 have g5:=fun x W h (hW:Below w.heap.size w W) => ttan_any m e p x W h hv (by omega) (by omega) (by omega) (hT.mono hW)
 have g6:=fun x y W h i => dcmp_any m e n f x y W h i (by omega) (by omega) (by omega) (by omega)
 rw [show cmpI (m * 2 ^ (e - min e f).toNat) (n * 2 ^ (f - min e f).toNat) = dcm m e n f from rfl] at g6
 have g7:=fun x W h (hW:Below w.heap.size w W) => ttan_any n f p x W h hv2 (by omega) (by omega) (by omega) (hT.mono hW)
 have HQ:=Hd9 (And.intro hp hk)
 have hcase:(dcm m e n f < 0) ∨ (m = n∧e = f∧dcm m e n f = 0):=by
  rcases Int.lt_or_le (dcm m e n f) 0 with q9 | q9
  ·exact Or.inl q9
  ·have q0:dcm m e n f = 0:=by omega
   obtain ⟨a,b⟩:=(dcm_eq hv hv2).1 q0
   exact Or.inr ⟨a,b,q0⟩
 generalize dcm m e n f = cn at *
 clear hmn hk hv hv2 lm ln he hf hsm hT hx HP0 hp
 have G3:=Hd9 g3
 have G5:=Hd9 g5
 have G6:=Hd9 g6
 have G7:=Hd9 g7
 clear g3 g5 g6 g7
 rcases hcase with hlt | ⟨rfl,rfl,hlt⟩
 ·have d2:decide (cn < 0) = true:=decide_eq_true hlt
  go_enter Tryz.func16,Tryz.ntmps16
  have L:=((L0.varI (w.heap.size) (by simp) (ng m) A (zl m) c e (ng n) B (zl n) d f).varI (w.heap.size + 1) (by simp) false none 0 0 0 false none 0 0 0)
  obtain ⟨c10,c11,c12,c13,c14,c15⟩:=L.tl.b0.a6
  (try go_wp2_with fail)
  refine (HP.out _).mono ?_
  rintro e9 w' ⟨rfl,rfl⟩
  (try go_wp2_with fail)
  refine (G3.out _ _ (isI_n (m:=m) (e:=e) (n:=n) (f:=f) (s:=.slice A (zl m) c) (t:=.slice B (zl n) d) (L.getN (by simp)) (L.getN (by simp)))).mono ?_
  rintro e w1 ⟨rfl,be⟩
  clear c10 c11 c12 c13 c14 c15
  replace L:=L.step be
  clear be
  obtain ⟨c10,c11,c12,c13,c14,c15⟩:=L.tl.b0.a6
  (try go_wp2_with fail)
  refine (G5.out _ _ (isD_n (m:=m) (e:=e) (s:=.slice A (zl m) c) (L.getN (by simp))) L.below).mono ?_
  rintro e w2 ⟨s1,ok1,hs1,v9,rfl,iz,be⟩
  clear c10 c11 c12 c13 c14 c15
  obtain ⟨A2,c2,rfl,_,in9⟩:=iz.form
  replace L:=(L.step be).n in9
  clear be iz in9
  have hl9:=L.b0.lt
  obtain ⟨M1,hM1⟩:=nm9 (mkM s1 (-(p:Int)))
  obtain ⟨E1,hE1⟩:=nm9 (mkE s1 (-(p:Int)))
  rw [hM1] at L ⊢
  rw [hE1]
  have HW1:=Hd9 (And.intro ok1 (And.intro hs1 (And.intro hM1 hE1)))
  clear ok1 hs1 hM1 hE1
  replace L:=L.varD w2.heap.size rfl (ng M1) A2 (zl M1) c2 E1
  obtain ⟨c00,c01,c02⟩:=L.b0.a3
  replace L:=L.varD (w2.heap.size + 1) (by simp) (ng M1) A2 (zl M1) c2 E1
  obtain ⟨d00,d01,d02,d03,d04,d05⟩:=L.tl.tl.tl.b0.a6
  (try go_wp2_with fail)
  clear c00 c01 c02 d00 d01 d02 d03 d04 d05
  obtain ⟨g1,hg1⟩:=nm9 (w2.heap.size)
  rw [hg1] at L hl9 ⊢
  clear hg1
  have hl_g1:=hl9
  clear hl9
  refine (G6.out _ _ _ (isD_n (m:=m) (e:=e) (s:=.slice A (zl m) c) (L.getN (by simp))) (isD_n (m:=n) (e:=f) (s:=.slice B (zl n) d) (L.getN (by simp)))).mono ?_
  rintro e w3 ⟨rfl,be⟩
  replace L:=L.step be
  clear be
  obtain ⟨c30,c31,c32,c33,c34,c35⟩:=L.tl.tl.tl.b0.a6
  (try go_wp2_with fail)
  refine (G7.out _ _ (isD_n (m:=n) (e:=f) (s:=.slice B (zl n) d) (L.getN (by simp))) L.below).mono ?_
  rintro e w4 ⟨s2,ok2,hs2,v9,rfl,iz,be⟩
  clear c30 c31 c32 c33 c34 c35
  obtain ⟨A3,c3,rfl,_,in9⟩:=iz.form
  replace L:=(L.step be).n in9
  clear be iz in9
  obtain ⟨M2,hM2⟩:=nm9 (mkM s2 (-(p:Int)))
  obtain ⟨E2,hE2⟩:=nm9 (mkE s2 (-(p:Int)))
  rw [hM2] at L ⊢
  rw [hE2]
  have HW2:=Hd9 (And.intro ok2 (And.intro hs2 (And.intro hM2 hE2)))
  clear ok2 hs2 hM2 hE2
  obtain ⟨c00,c01,c02⟩:=L.b0.a3
  obtain ⟨f00,f01,f02⟩:=L.b0.f3
  have P:=L.putD (by omega) (by first | (simp;done) | (simp;omega)) (ng M2) A3 (zl M2) c3 E2
  obtain ⟨p00,p01,p02⟩:=P.b0.a3
  obtain ⟨p10,p11,p12⟩:=P.tl.b0.a3
  unfold put3 at p00 p01 p02 p10 p11 p12 P
  (try go_wp2_with fail)
  replace L:=P
  clear P p00 p01 p02 p10 p11 p12
  clear c00 f00 c01 f01 c02 f02
  obtain ⟨hp,hk⟩:=HQ.out
  obtain ⟨ok1,hs1,hM1,hE1⟩:=HW1.out
  obtain ⟨ok2,hs2,hM2,hE2⟩:=HW2.out
  have g8:=fun x y W h i (hW:Below w.heap.size w W) => taround_any s1 s2 k p x y W h i hs1 hs2 hp.symm hk (HT.out W hW)
  rw [hM1,hE1] at g8
  rw [hM2,hE2] at g8
  obtain ⟨za,_⟩:=at_size hp.symm hs1
  obtain ⟨_,zb⟩:=at_size hp.symm hs2
  have hR1:=atLo_en hp.symm ok1
  have hR2:=atHi_en hp.symm ok2
  have hR3:=at_tight s1
  obtain ⟨a,ha⟩:=nm9 (atLo s1)
  obtain ⟨b,hb⟩:=nm9 (atHi s2)
  
  rw [ha] at g8 za hR1
  rw [hb] at g8 zb hR2
  have HR:=Hd9 (And.intro hR1 (And.intro hR2 (And.intro za (And.intro zb hR3))))
  obtain ⟨Ma,hMa⟩:=nm9 (mkM a (-(k:Int)))
  obtain ⟨Ea,hEa⟩:=nm9 (mkE a (-(k:Int)))
  obtain ⟨Nb,hNb⟩:=nm9 (mkM b (-(k:Int)))
  obtain ⟨Fb,hFb⟩:=nm9 (mkE b (-(k:Int)))
  rw [hMa,hEa,hNb,hFb] at g8
  have HN:=Hd9 (And.intro (And.intro hMa hEa) (And.intro hNb hFb))
  have G8:=Hd9 g8
  clear g8 hMa hEa hNb hFb ha hb hR1 hR2 hR3 za zb ok1 hs1 hM1 hE1 hp hk ok2 hs2 hM2 hE2
  (try go_wp2_with fail)
  refine (G8.out _ _ _ (isD_n (m:=M1) (e:=E1) (s:=.slice A2 (zl M1) c2) (L.getN (by simp))) (isD_n (m:=M2) (e:=E2) (s:=.slice A3 (zl M2) c3) (L.getN (by simp))) L.below).mono ?_
  rintro e w5 ⟨v2,rfl,ii,be⟩
  obtain ⟨A8,c8,B8,d8,rfl,ia,ib⟩:=ii.form
  replace L:=((L.step be).n ib).n ia
  clear be ii ia ib
  have hR:=HR.out
  obtain ⟨⟨hMa,hEa⟩,hNb,hFb⟩:=HN.out
  subst hMa hEa hNb hFb
  have L9:=L.subx (ns':=[(.slice A8 (zl (mkM a (-(k:Int)))) c8,(mkM a (-(k:Int))).natAbs),(.slice B8 (zl (mkM b (-(k:Int)))) d8,(mkM b (-(k:Int))).natAbs)]) (bs':=[(w.heap.size + 1,28,#[.bool false,.slice none 0 0,.int .i64 0,.bool false,.slice none 0 0,.int .i64 0])]) (by simp) (by simp)
  clear L
  have L:=L9
  clear L9
  obtain ⟨c00,c01,c02,c03,c04,c05⟩:=L.b0.a6
  obtain ⟨f00,f01,f02,f03,f04,f05⟩:=L.b0.f6
  go_wp2_with fail
  clear c00 f00 c01 f01 c02 f02 c03 f03 c04 f04 c05 f05
  have LP:=L.putI (by omega) (by first | (simp;done) | (simp;omega)) (ng (mkM a (-(k:Int)))) A8 (zl (mkM a (-(k:Int)))) c8 (mkE a (-(k:Int))) (ng (mkM b (-(k:Int)))) B8 (zl (mkM b (-(k:Int)))) d8 (mkE b (-(k:Int)))
  obtain ⟨k0,k1,k2,k3,k4,k5⟩:=LP.b0.a6
  unfold put6 at k0 k1 k2 k3 k4 k5
  exact bodyPost_ret (v:=.tuple #[.agg #[.bool (ng (mkM a (-(k:Int)))),.slice A8 (zl (mkM a (-(k:Int)))) c8,.int .i64 (mkE a (-(k:Int))),.bool (ng (mkM b (-(k:Int)))),.slice B8 (zl (mkM b (-(k:Int)))) d8,.int .i64 (mkE b (-(k:Int)))],.int .i64 0]) (by simp [results,Tryz.results16,go_sem,k0,k1,k2,k3,k4,k5]) rfl ⟨a,b,⟨hR.1,hR.2.1,hR.2.2.1,hR.2.2.2.1⟩,_,rfl,isI_n (LP.getN (by simp)) (LP.getN (by simp)),LP.below⟩
 ·have d2:decide (cn < 0) = false:=decide_eq_false (by omega)
  go_enter Tryz.func16,Tryz.ntmps16
  have L:=((L0.varI (w.heap.size) (by simp) (ng m) A (zl m) c e (ng m) B (zl m) d e).varI (w.heap.size + 1) (by simp) false none 0 0 0 false none 0 0 0)
  obtain ⟨c10,c11,c12,c13,c14,c15⟩:=L.tl.b0.a6
  (try go_wp2_with fail)
  refine (HP.out _).mono ?_
  rintro e9 w' ⟨rfl,rfl⟩
  (try go_wp2_with fail)
  refine (G3.out _ _ (isI_n (m:=m) (e:=e) (n:=m) (f:=e) (s:=.slice A (zl m) c) (t:=.slice B (zl m) d) (L.getN (by simp)) (L.getN (by simp)))).mono ?_
  rintro e w1 ⟨rfl,be⟩
  clear c10 c11 c12 c13 c14 c15
  replace L:=L.step be
  clear be
  obtain ⟨c10,c11,c12,c13,c14,c15⟩:=L.tl.b0.a6
  (try go_wp2_with fail)
  refine (G5.out _ _ (isD_n (m:=m) (e:=e) (s:=.slice A (zl m) c) (L.getN (by simp))) L.below).mono ?_
  rintro e w2 ⟨s1,ok1,hs1,v9,rfl,iz,be⟩
  clear c10 c11 c12 c13 c14 c15
  obtain ⟨A2,c2,rfl,_,in9⟩:=iz.form
  replace L:=(L.step be).n in9
  clear be iz in9
  have hl9:=L.b0.lt
  obtain ⟨M1,hM1⟩:=nm9 (mkM s1 (-(p:Int)))
  obtain ⟨E1,hE1⟩:=nm9 (mkE s1 (-(p:Int)))
  rw [hM1] at L ⊢
  rw [hE1]
  have HW1:=Hd9 (And.intro ok1 (And.intro hs1 (And.intro hM1 hE1)))
  clear ok1 hs1 hM1 hE1
  replace L:=L.varD w2.heap.size rfl (ng M1) A2 (zl M1) c2 E1
  obtain ⟨c00,c01,c02⟩:=L.b0.a3
  replace L:=L.varD (w2.heap.size + 1) (by simp) (ng M1) A2 (zl M1) c2 E1
  obtain ⟨d00,d01,d02,d03,d04,d05⟩:=L.tl.tl.tl.b0.a6
  (try go_wp2_with fail)
  clear c00 c01 c02 d00 d01 d02 d03 d04 d05
  obtain ⟨g1,hg1⟩:=nm9 (w2.heap.size)
  rw [hg1] at L hl9 ⊢
  clear hg1
  have hl_g1:=hl9
  clear hl9
  refine (G6.out _ _ _ (isD_n (m:=m) (e:=e) (s:=.slice A (zl m) c) (L.getN (by simp))) (isD_n (m:=m) (e:=e) (s:=.slice B (zl m) d) (L.getN (by simp)))).mono ?_
  rintro e w3 ⟨rfl,be⟩
  replace L:=L.step be
  clear be
  obtain ⟨c00,c01,c02⟩:=L.b0.a3
  obtain ⟨c10,c11,c12⟩:=L.tl.b0.a3
  (try go_wp2_with fail)
  clear c00 c01 c02 c10 c11 c12
  obtain ⟨hp,hk⟩:=HQ.out
  obtain ⟨ok1,hs1,hM1,hE1⟩:=HW1.out
  have g8:=fun x y W h i (hW:Below w.heap.size w W) => taround_any s1 s1 k p x y W h i hs1 hs1 hp.symm hk (HT.out W hW)
  rw [hM1,hE1] at g8
  obtain ⟨za,_⟩:=at_size hp.symm hs1
  obtain ⟨_,zb⟩:=at_size hp.symm hs1
  have hR1:=atLo_en hp.symm ok1
  have hR2:=atHi_en hp.symm ok1
  have hR3:=at_tight s1
  obtain ⟨a,ha⟩:=nm9 (atLo s1)
  obtain ⟨b,hb⟩:=nm9 (atHi s1)
  rw [ha,hb] at hR3
  rw [ha] at g8 za hR1
  rw [hb] at g8 zb hR2
  have HR:=Hd9 (And.intro hR1 (And.intro hR2 (And.intro za (And.intro zb hR3))))
  obtain ⟨Ma,hMa⟩:=nm9 (mkM a (-(k:Int)))
  obtain ⟨Ea,hEa⟩:=nm9 (mkE a (-(k:Int)))
  obtain ⟨Nb,hNb⟩:=nm9 (mkM b (-(k:Int)))
  obtain ⟨Fb,hFb⟩:=nm9 (mkE b (-(k:Int)))
  rw [hMa,hEa,hNb,hFb] at g8
  have HN:=Hd9 (And.intro (And.intro hMa hEa) (And.intro hNb hFb))
  have G8:=Hd9 g8
  clear g8 hMa hEa hNb hFb ha hb hR1 hR2 hR3 za zb ok1 hs1 hM1 hE1 hp hk
  (try go_wp2_with fail)
  refine (G8.out _ _ _ (isD_n (m:=M1) (e:=E1) (s:=.slice A2 (zl M1) c2) (L.getN (by simp))) (isD_n (m:=M1) (e:=E1) (s:=.slice A2 (zl M1) c2) (L.getN (by simp))) L.below).mono ?_
  rintro e w4 ⟨v2,rfl,ii,be⟩
  obtain ⟨A8,c8,B8,d8,rfl,ia,ib⟩:=ii.form
  replace L:=((L.step be).n ib).n ia
  clear be ii ia ib
  have hR:=HR.out
  obtain ⟨⟨hMa,hEa⟩,hNb,hFb⟩:=HN.out
  subst hMa hEa hNb hFb
  have L9:=L.subx (ns':=[(.slice A8 (zl (mkM a (-(k:Int)))) c8,(mkM a (-(k:Int))).natAbs),(.slice B8 (zl (mkM b (-(k:Int)))) d8,(mkM b (-(k:Int))).natAbs)]) (bs':=[(w.heap.size + 1,28,#[.bool false,.slice none 0 0,.int .i64 0,.bool false,.slice none 0 0,.int .i64 0])]) (by simp) (by simp)
  clear L
  have L:=L9
  clear L9
  obtain ⟨c00,c01,c02,c03,c04,c05⟩:=L.b0.a6
  obtain ⟨f00,f01,f02,f03,f04,f05⟩:=L.b0.f6
  go_wp2_with fail
  clear c00 f00 c01 f01 c02 f02 c03 f03 c04 f04 c05 f05
  have LP:=L.putI (by omega) (by first | (simp;done) | (simp;omega)) (ng (mkM a (-(k:Int)))) A8 (zl (mkM a (-(k:Int)))) c8 (mkE a (-(k:Int))) (ng (mkM b (-(k:Int)))) B8 (zl (mkM b (-(k:Int)))) d8 (mkE b (-(k:Int)))
  obtain ⟨k0,k1,k2,k3,k4,k5⟩:=LP.b0.a6
  unfold put6 at k0 k1 k2 k3 k4 k5
  exact bodyPost_ret (v:=.tuple #[.agg #[.bool (ng (mkM a (-(k:Int)))),.slice A8 (zl (mkM a (-(k:Int)))) c8,.int .i64 (mkE a (-(k:Int))),.bool (ng (mkM b (-(k:Int)))),.slice B8 (zl (mkM b (-(k:Int)))) d8,.int .i64 (mkE b (-(k:Int)))],.int .i64 0]) (by simp [results,Tryz.results16,go_sem,k0,k1,k2,k3,k4,k5]) rfl ⟨a,b,⟨hR.1,hR.2.1,hR.2.2.1,hR.2.2.2.1⟩,_,rfl,isI_n (LP.getN (by simp)) (LP.getN (by simp)),LP.below⟩
theorem trecip_arg (n k:Int) (w:World) (hk:okA k = false ∨ n < 2 ∨ 1000000 < n) :
  Calls Tryz.prog 59 #[.int .i64 n,.int .i64 k] w (RetIE w 0 0 0 0 1):=by
 have HP0:=fun W => tperm_any k W
 have HP:=Hd9 HP0
 clear HP0
 obtain ⟨b,hb⟩:=nm9 (okA k)
 rw [hb] at HP hk
 clear hb
 by_cases q1:b = false
 ·subst q1
  go_enter Tryz.func59,Tryz.ntmps59
  have L:=((Lq.mk0 w).varI (w.heap.size) (by simp) false none 0 0 0 false none 0 0 0)
  obtain ⟨c00,c01,c02,c03,c04,c05⟩:=L.b0.a6
  obtain ⟨f00,f01,f02,f03,f04,f05⟩:=L.b0.f6
  (try go_wp2_with fail)
  refine (HP.out _).mono ?_
  rintro e9 w' ⟨rfl,rfl⟩
  (try go_wp2_with fail)
  exact bodyPost_ret (v:=.tuple #[.agg #[.bool false,.slice none 0 0,.int .i64 0,.bool false,.slice none 0 0,.int .i64 0],.int .i64 1]) (by simp [results,Tryz.results59,go_sem,c00,c01,c02,c03,c04,c05]) rfl ⟨_,rfl,isI_zero _,L.below⟩
 ·have hb:b = true:=by cases b <;> simp_all
  subst hb
  have hk2:n < 2 ∨ 1000000 < n:=hk.resolve_left (by simp)
  by_cases q2:n < 2
  ·skip
   go_enter Tryz.func59,Tryz.ntmps59
   have L:=((Lq.mk0 w).varI (w.heap.size) (by simp) false none 0 0 0 false none 0 0 0)
   obtain ⟨c00,c01,c02,c03,c04,c05⟩:=L.b0.a6
   obtain ⟨f00,f01,f02,f03,f04,f05⟩:=L.b0.f6
   (try go_wp2_with fail)
   refine (HP.out _).mono ?_
   rintro e9 w' ⟨rfl,rfl⟩
   (try go_wp2_with fail)
   exact bodyPost_ret (v:=.tuple #[.agg #[.bool false,.slice none 0 0,.int .i64 0,.bool false,.slice none 0 0,.int .i64 0],.int .i64 1]) (by simp [results,Tryz.results59,go_sem,c00,c01,c02,c03,c04,c05]) rfl ⟨_,rfl,isI_zero _,L.below⟩
  ·have q3:1000000 < n:=by omega
   have q4:¬ n < 2:=by omega
   go_enter Tryz.func59,Tryz.ntmps59
   have L:=((Lq.mk0 w).varI (w.heap.size) (by simp) false none 0 0 0 false none 0 0 0)
   obtain ⟨c00,c01,c02,c03,c04,c05⟩:=L.b0.a6
   obtain ⟨f00,f01,f02,f03,f04,f05⟩:=L.b0.f6
   (try go_wp2_with fail)
   refine (HP.out _).mono ?_
   rintro e9 w' ⟨rfl,rfl⟩
   (try go_wp2_with fail)
   exact bodyPost_ret (v:=.tuple #[.agg #[.bool false,.slice none 0 0,.int .i64 0,.bool false,.slice none 0 0,.int .i64 0],.int .i64 1]) (by simp [results,Tryz.results59,go_sem,c00,c01,c02,c03,c04,c05]) rfl ⟨_,rfl,isI_zero _,L.below⟩
theorem small14 {m e n f:Int} (lm:zl m≤60) (ln:zl n≤60) (he:-8000≤e∧e≤3000) (hf:-8000≤f∧f≤3000) (hle:dcm m e n f≤0) (tm:topZ m e≤2048) (tn:topZ n f≤2048):smallB m e n f = true:=by
 have p8:permB 8192 = true:=by decide
 unfold smallB onB
 rw [p8,decide_eq_true hle,decide_eq_true tm,decide_eq_true tn,decide_eq_true (show -8192≤e by omega),decide_eq_true (show -8192≤f by omega)]
 simp


theorem of16_any (a b:Int) (w:World) (h1:-1000≤a∧a≤1000) (h2:-1000≤b∧b≤1000) :
  Calls Tryz.prog 58 #[.int .i64 a,.int .i64 b] w (RetI6 w (mkM a 0) (mkE a 0) (mkM b 0) (mkE b 0)):=by
 have HA:=Hd9 (fun W => rof8_any a W (by omega) (by omega))
 have HB:=Hd9 (fun W => rof8_any b W (by omega) (by omega))
 generalize mkM a 0 = m at *
 generalize mkE a 0 = e at *
 generalize mkM b 0 = n at *
 generalize mkE b 0 = f at *
 clear h1 h2
 go_enter Tryz.func58,Tryz.ntmps58
 go_wp2_with fail
 have L:=((Lq.mk0 w).varI (w.heap.size) (by simp) false none 0 0 0 false none 0 0 0)
 obtain ⟨c00,c01,c02,c03,c04,c05⟩:=L.b0.a6
 obtain ⟨f00,f01,f02,f03,f04,f05⟩:=L.b0.f6
 (try go_wp2_with fail)
 refine (HA.out _).mono ?_
 rintro e w1 ⟨v1,rfl,id,be⟩
 clear c00 f00 c01 f01 c02 f02 c03 f03 c04 f04 c05 f05
 obtain ⟨A,c,rfl,_,in9⟩:=id.form
 replace L:=(L.step be).n in9
 clear be id in9
 obtain ⟨c00,c01,c02,c03,c04,c05⟩:=L.b0.a6
 obtain ⟨f00,f01,f02,f03,f04,f05⟩:=L.b0.f6
 (try go_wp2_with fail)
 refine (HB.out _).mono ?_
 rintro e w2 ⟨v2,rfl,id,be⟩
 clear c00 f00 c01 f01 c02 f02 c03 f03 c04 f04 c05 f05
 obtain ⟨B,d,rfl,_,in9⟩:=id.form
 replace L:=(L.step be).n in9
 clear be id in9
 obtain ⟨c00,c01,c02,c03,c04,c05⟩:=L.b0.a6
 obtain ⟨f00,f01,f02,f03,f04,f05⟩:=L.b0.f6
 (try go_wp2_with fail)
 have LP:=L.putI (by omega) (by first | (simp;done) | (simp;omega)) (ng m) A (zl m) c e (ng n) B (zl n) d f
 obtain ⟨k0,k1,k2,k3,k4,k5⟩:=LP.b0.a6
 unfold put6 at k0 k1 k2 k3 k4 k5
 exact bodyPost_ret (v:=.agg #[.bool (ng m),.slice A (zl m) c,.int .i64 e,.bool (ng n),.slice B (zl n) d,.int .i64 f]) (by simp [results,Tryz.results58,go_sem,k0,k1,k2,k3,k4,k5]) rfl ⟨_,rfl,isI_n (LP.getN (by simp)) (LP.getN (by simp)),LP.below⟩
theorem gr16 {T:Int} {k j:Nat} (h:AbP T j) (hj:j≤500) (hk:k≤300):zl (mkM T (-(k:Int)))≤j / 32 + 1∧(-(k:Int)≤mkE T (-(k:Int))∧mkE T (-(k:Int))≤532)∧Dv (mkM T (-(k:Int))) (mkE T (-(k:Int)))∧dq (mkM T (-(k:Int))) (mkE T (-(k:Int))) = dq T (-(k:Int)):=by
 obtain ⟨a1,a2,a3,a4,a5⟩:=nx (x := -(k:Int)) h (by omega) (by omega)
 exact ⟨by omega,by omega,a4,a5⟩
def DvT (K k:Nat) (m e:Int):Prop:=Dv m e∧topZ m e≤(K:Int) + 32 * (k:Int)
theorem top_z {m e:Int} {k:Nat} (hz:zl m≤k) {K:Int} (he:e≤K) (h0:0≤K + 32 * (k:Int)):topZ m e≤K + 32 * (k:Int):=by
 have h:=blen_le_len m.natAbs
 have e1:zl m = len m.natAbs:=rfl
 unfold topZ
 split <;> omega
theorem mkT_ok {m e:Int} {K k:Nat} (hz:zl m≤k) (he:e≤(K:Int)) (h:mkR m e = 0):DvT K k (mkM m e) (mkE m e):=by
 refine ⟨mk_ok h,?_⟩
 have h1:=top_z hz he (by omega)
 rw [top_iff (by omega)] at h1 ⊢
 rw [dq_mk h]
 exact h1
def RetMillDT (w:World) (k K:Nat) (e:Ending) (w':World):Prop:=∃ v ok x f,e = .returned (.tuple #[v,.bool ok])∧IsD w' v x f∧zl x≤k + 1∧-(K:Int)≤f∧f≤(K:Int) + 32 * ((k:Int) + 1)∧(ok = true → DvT K k x f)∧Below w.heap.size w w'

theorem millDT_any (b:Bool) (l:List Nat) (m K:Nat) (A:Option Addr) (n c:Nat) (e:Int) (w:World) (h:Sl w A n c l) (hm:m≤10000) (hK:K≤100000) (h1:-9223372036854775808≤e) (h2:e≤9223372036854775807) :
  Calls Tryz.prog 19 #[.agg #[.bool b,.slice A n c,.int .i64 e],.int .i64 (m:Int),.int .i64 (K:Int)] w (RetMillDT w m K):=by
 have H1:=Hd9 (fun W (hW:Below w.heap.size w W) => millZ_any b l m A n c W (h.mono hW) (by omega))
 have HD:=Hd9 (fun W => mod_any e (2 * (K:Int) + 1) W (by omega) (by omega) h1 h2)
 have hg1:0≤e % (2 * (K:Int) + 1):=Int.emod_nonneg _ (by omega)
 have hg2:e % (2 * (K:Int) + 1) < 2 * (K:Int) + 1:=Int.emod_lt_of_pos _ (by omega)
 obtain ⟨K2,hK2⟩:∃ K2:Int,2 * (K:Int) = K2:=⟨_,rfl⟩
 obtain ⟨K3,hK3⟩:∃ K3:Int,K2 + 1 = K3:=⟨_,rfl⟩
 have hw1:IntKind.i64.wrap (2 * (K:Int)) = K2:=by rw [IntKind.wrap_i64];omega
 have hw2:IntKind.i64.wrap (K2 + 1) = K3:=by rw [IntKind.wrap_i64];omega
 rw [hK2,hK3] at HD hg1 hg2
 obtain ⟨r,hr⟩:=nm9 (e % K3)
 rw [hr] at HD hg1 hg2
 obtain ⟨G,hG⟩:∃ G:Int,r - (K:Int) = G:=⟨_,rfl⟩
 have hw3:IntKind.i64.wrap (r - (K:Int)) = G:=by rw [IntKind.wrap_i64];omega
 have hG1:-(K:Int)≤G:=by omega
 have hG2:G≤(K:Int):=by omega
 clear h hr hG hg1 hg2 hK2 hK3
 go_enter Tryz.func19,Tryz.ntmps19
 go_wp2_with fail
 have L:=(((Lq.mk0 w).varD (w.heap.size) (by simp) b A n c e).varD (w.heap.size + 1) (by simp) false none 0 0 0)
 obtain ⟨c00,c01,c02⟩:=L.b0.a3
 obtain ⟨f00,f01,f02⟩:=L.b0.f3
 obtain ⟨c10,c11,c12⟩:=L.tl.b0.a3
 refine (H1.out _ L.below).mono ?_
 rintro e w1 ⟨v1,ok1,z,rfl,iz,lz,be⟩
 clear c00 f00 c01 f01 c02 f02 c10 c11 c12
 replace L:=(L.step be).z iz
 obtain ⟨A1,c1,rfl,in1⟩:=iz.form
 replace L:=L.n in1
 clear be iz in1
 have hlt:=L.b0.lt
 obtain ⟨c00,c01,c02⟩:=L.b0.a3
 obtain ⟨f00,f01,f02⟩:=L.b0.f3
 obtain ⟨c10,c11,c12⟩:=L.tl.b0.a3
 obtain ⟨f10,f11,f12⟩:=L.tl.b0.f3
 have LP0:=L.putD (by omega) (by first | (simp;done) | (simp;omega)) false none 0 0 0
 replace L:=L.varZ w1.heap.size rfl (ng z) A1 (zl z) c1
 cases ok1
 ·go_wp2_with fail
  have LP:=LP0.varZ _ rfl (ng z) A1 (zl z) c1
  obtain ⟨k0,k1,k2⟩:=LP.tl.b0.a3
  unfold put3 at k0 k1 k2
  exact bodyPost_ret (v:=.tuple #[.agg #[.bool false,.slice none 0 0,.int .i64 0],.bool false]) (by simp [results,Tryz.results19,go_sem,k0,k1,k2]) rfl ⟨_,_,_,_,rfl,isD_zero _,by rw [zl_zero];omega,by omega,by omega,fun h => (by cases h),LP.below⟩
 ·clear LP0
  go_wp2_with fail
  obtain ⟨g,hg⟩:=nm9 (w1.heap.size)
  rw [hg] at L hlt ⊢
  have hm0:=fun v W h => rmake8_any z G v W h (by omega)
  have lz2:=zl_mk z G
  have hE:=mkE_le (m:=z) hG1 hG2
  have HOK:=Hd9 (fun h => mkT_ok (K:=K) (k:=m) lz hG2 h)
  generalize mkM z G = M at *
  generalize mkE z G = E at *
  generalize mkR z G = R at *
  have HM:=Hd9 hm0
  clear hm0
  have HZ:=Hd9 (L.getZ (v:=.agg #[.bool (ng z),.slice A1 (zl z) c1]) (x:=z) (by simp))
  obtain ⟨V,hV⟩:=nm9 (w1.alloc (.cells #[.bool (ng z),.slice A1 (zl z) c1] 24))
  rw [hV] at L HZ ⊢
  clear hV hg
  have Q0:=Hd9 (fun Z (hZ:Below V.heap.size V Z) => (L.b0.mono hZ).c20)
  have Q1:=Hd9 (fun Z (hZ:Below V.heap.size V Z) => (L.b0.mono hZ).c21)
  have Q2:=Hd9 (fun Z (hZ:Below V.heap.size V Z) => (L.tl.tl.b0.mono hZ).c32)
  have hgm0:=L.b0.lt
  have LL:=Hd9 L
  clear L
  clear c00 f00 c01 f01 c02 f02 c10 f10 c11 f11 c12 f12
  have D0:Dq V V [] [(.agg #[.bool (ng z),.slice A1 (zl z) c1],z)] [] []:=⟨(Lq.mk0 V).z HZ.out,List.nodup_nil,fun p hp => by cases hp⟩
  have D:=D0.drew
  obtain ⟨k,hk⟩:=nm9 (V.heap.size)
  have hgm:g < k:=by omega
  have hgx:w.heap.size < k:=by omega
  have hz0:k≤V.heap.size:=by omega
  have hmd:V.drew.heap.size = k:=hk
  go_cut [10,11] from 23 to 34 (fun s5 s6 wx => Made1D V M E s5 wx∧s6 = .int .i64 R)
  case first =>
   go_region_held3 (fun w' => w'.cell? ⟨g,0,none⟩ = some (.bool (ng z))∧w'.cell? ⟨g,1,none⟩ = some (.slice A1 (zl z) c1)∧w'.cell? ⟨w.heap.size,2,none⟩ = some (.int .i64 e)) (((try dsimp only);refine ⟨?_,?_,?_⟩ <;> (repeat (first | (with_reducible exact Q0.out _ D.lq.below) | (with_reducible exact Q0.out _ D0.lq.below) | (with_reducible exact Q1.out _ D.lq.below) | (with_reducible exact Q1.out _ D0.lq.below) | (with_reducible exact Q2.out _ D.lq.below) | (with_reducible exact Q2.out _ D0.lq.below) | (with_reducible refine c_alloc _ ?_) | (with_reducible refine c_drew ?_) | (with_reducible refine c_set ?_ (by assumption) ?_) | omega)))) (first | (go_at_call 15;(with_reducible refine (HD.out _ ).mono ?_);rintro e9 wh ⟨rfl,rfl⟩;(try (obtain ⟨x00,x01,x02⟩:=D.lq.b0.a3;obtain ⟨y00,y01,y02⟩:=D.lq.b0.f3));(try obtain ⟨na,nb,nc,nd,nl⟩:=D.n0)) | (go_at_call 24;(with_reducible refine (HM.out _ _ ?_ ).mono ?_);(· (first | (with_reducible refine D.getZ ?_;(repeat (first | (with_reducible exact mS) | apply mT))) | (with_reducible refine (D.boxD false none 0 0 0).getZ ?_;(repeat (first | (with_reducible exact mS) | apply mT))) | (with_reducible refine (D0.boxD false none 0 0 0).drew.getZ ?_;(repeat (first | (with_reducible exact mS) | apply mT)))));rintro e9 wh ⟨vh,rfl,id,be⟩;obtain ⟨A9,c9,rfl,_,in9⟩:=id.form;(first | (replace D:=(D.step be).n in9) | (replace D:=((D.boxMD hmd false none 0 0 0).step be).n in9) | (replace D:=((D.boxD false none 0 0 0).step be).n in9));have hz:=(be).size;(try simp at hz);(try (obtain ⟨x00,x01,x02⟩:=D.lq.b0.a3;obtain ⟨y00,y01,y02⟩:=D.lq.b0.f3));(try obtain ⟨na,nb,nc,nd,nl⟩:=D.n0)))
   all_goals
    go_wp2_with fail
    go_meet
    refine ⟨?_,rfl⟩
    first
    | ((with_reducible refine made1d_a D ?_) <;> (repeat (first | (with_reducible exact mS) | apply mT)))
    | ((with_reducible refine made1d_b D ?_) <;> (repeat (first | (with_reducible exact mS) | apply mT)))
  case rest =>
   obtain ⟨⟨g2,A3,c5,rfl,hg2,bw,hbx,hqq⟩,rfl⟩:=hcut
   have L:=(LL.out.step bw).n hqq
   clear D D0 hmd hz0 hgm hgx HZ Q0 Q1 Q2
   generalize wc = wd at *
   have hne:w.heap.size + 1 ≠ g2:=by omega
   replace L:=L.b hbx
   obtain ⟨q0,q1,q2⟩:=L.b0.a3
   obtain ⟨r0,r1,r2⟩:=L.tl.tl.b0.a3
   obtain ⟨s0,s1,s2⟩:=L.tl.tl.b0.f3
   go_wp2_with fail
   have LP:=L.pull2.putD (by omega) (by first | (simp;done) | (simp;omega)) (ng M) A3 (zl M) c5 E
   obtain ⟨k0,k1,k2⟩:=LP.b0.a3
   unfold put3 at k0 k1 k2
   exact bodyPost_ret (v:=.tuple #[.agg #[.bool (ng M),.slice A3 (zl M) c5,.int .i64 E],.bool (R == 0)]) (by simp [results,Tryz.results19,go_sem,k0,k1,k2]) rfl ⟨_,_,_,_,rfl,isD_n LP.hn,by omega,by omega,by omega,fun h => HOK.out (by simpa using h),LP.below⟩

theorem RetAf.ab {w w':World} {x:Rat} {j:Nat} {en:Ending} (h:RetAf w x j en w'):∃ a b,(AtW j a b x∧AbP a 60000∧AbP b 60000)∧RetI6 w (mkM a (-(j:Int))) (mkE a (-(j:Int))) (mkM b (-(j:Int))) (mkE b (-(j:Int))) en w':=by
 obtain ⟨a,b,h1,h2⟩:=h
 exact ⟨a,b,h2,h1⟩
theorem s16at_any (m e:Int) (k:Nat) (vx:Value) (w:World) (hx:IsD w vx m e) (lm:zl m≤100) (he:-9000≤e∧e≤4000) (hk:k≤130):Calls Tryz.prog 18 #[vx,.int .i64 (k:Int)] w (RetAf w (dq m e) (k + 16)):=by
 by_cases h:dq (m.natAbs:Int) e≤1
 ·exact s16at_unit m e k vx w hx lm he hk h
 ·exact s16at_big m e k vx w hx lm he hk (Rat.not_le.1 h)
theorem near16 (k:Nat) (a b a1 b1 a2 b2:Int) (x1 x2:Rat) (vx vl vh:Value) (w:World) (hk:k≤130) (hxy:x1≤x2) (pa:EaA k a x1) (pb:EaB k b x2) (za:AbP a (k + 21)) (zb:AbP b (k + 21)) (pl:AtW (k + 16) a1 b1 x1∧AbP a1 60000∧AbP b1 60000) (ph:AtW (k + 16) a2 b2 x2∧AbP a2 60000∧AbP b2 60000) (hx:IsI w vx (mkM a (-(k:Int))) (mkE a (-(k:Int))) (mkM b (-(k:Int))) (mkE b (-(k:Int)))) (hl:IsI w vl (mkM a1 (-((k + 16:Nat):Int))) (mkE a1 (-((k + 16:Nat):Int))) (mkM b1 (-((k + 16:Nat):Int))) (mkE b1 (-((k + 16:Nat):Int)))) (hh:IsI w vh (mkM a2 (-((k + 16:Nat):Int))) (mkE a2 (-((k + 16:Nat):Int))) (mkM b2 (-((k + 16:Nat):Int))) (mkE b2 (-((k + 16:Nat):Int)))) :
  Calls Tryz.prog 17 #[vx,vl,vh,.int .i64 (k:Int)] w (RetB w true):=by
 obtain ⟨c1,c2,c3,c4⟩:=near_at pa pb pl.1 ph.1
 exact near_gen k a b a1 b1 a2 b2 vx vl vh w (by omega) ((dq_le_iff _ _ _).1 (at_le pa.1 pb.2 hxy)) (za.up (by omega)) (zb.up (by omega)) pl.2.1 pl.2.2 ph.2.1 ph.2.2 c1 c2 c3 c4 hx hl hh

theorem awake16_any (w:World) (hT:Tab w) :
  Calls Tryz.prog 12 #[] w (RetB w true):=by
 have HT:=Hd9 (fun W (hW:Below w.heap.size w W) => hT.mono hW)
 have z0:zl 0≤1:=len_le1 (by decide)
 have hd0:dq 0 0 = 0:=dq_zero 0
 have dv0:Dv 0 0:=Or.inl ⟨rfl,rfl⟩
 have g1:=fun W => of16_any 0 0 W (by omega) (by omega)
 rw [nf00.1,nf00.2] at g1
 have g2:=fun v W h (hW:Below w.heap.size w W) => tatan_yes 0 0 0 0 4 v W h (by omega) (by omega) (by omega) (by omega) dv0 dv0 (by decide +kernel) (by omega) (hT.mono hW)
 have g4:=fun W => trecip_arg 1 5 W (Or.inr (Or.inl (by omega)))
 have g5:=fun W => (show Calls Tryz.prog 41 #[.int .i64 0] W (RetP W 0 1) from rofn7_any 0 W (by omega) (by omega))
 have G1:=Hd9 g1
 have G2:=Hd9 g2
 have G4:=Hd9 g4
 have G5:=Hd9 g5
 clear g1 g2 g4 g5 hT dv0
 go_enter Tryz.func12,Tryz.ntmps12
 go_wp2_with fail
 have L:=Lq.mk0 w
 (try go_wp2_with fail)
 refine (G1.out _).mono ?_
 rintro e w1 ⟨vv,rfl,ii,be⟩
 obtain ⟨A1,c1,B1,d1,rfl,ia,ib⟩:=ii.form
 replace L:=((L.step be).n ib).n ia
 clear be ii ia ib
 (try go_wp2_with fail)
 refine (G2.out _ _ (isI_n (m:=0) (e:=0) (n:=0) (f:=0) (s:=.slice A1 (zl 0) c1) (t:=.slice B1 (zl 0) d1) (L.getN (by simp)) (L.getN (by simp))) L.below).mono ?_
 intro e9 w2 hr9
 obtain ⟨a,b,⟨ea,eb,za,zb⟩,vv,rfl,ii,be⟩:=hr9
 obtain ⟨A2,c2,B2,d2,rfl,ia,ib⟩:=ii.form
 replace L:=((L.step be).n ib).n ia
 clear be ii ia ib
 obtain ⟨x1,x2,x3,x5⟩:=gr16 (k:=4) za (by omega) (by omega)
 obtain ⟨y1,y2,y3,y5⟩:=gr16 (k:=4) zb (by omega) (by omega)
 rw [hd0] at ea eb
 have zU:AtU 0 0:=Or.inr (Or.inl ⟨by decide +kernel,by decide +kernel⟩)
 have zL:AtL 0 0:=Or.inr (Or.inl ⟨rfl,Rat.le_refl⟩)
 have q1:=at_le ea.1 zU Rat.le_refl
 have q2:=at_le zL eb.2 Rat.le_refl
 have g6:∀ v u W,IsI W v (mkM a (-((4:Nat):Int))) (mkE a (-((4:Nat):Int))) (mkM b (-((4:Nat):Int))) (mkE b (-((4:Nat):Int))) → IsP W u 0 1 → Calls Tryz.prog 40 #[v,u] W (RetB W true):=fun v u W h k9 => by
  have s:=r10has_any _ _ _ _ 0 1 v u W h k9 (by omega) (by omega) (by omega) (by omega) (Nat.le_trans z0 (by omega)) (Nat.le_trans (len_le1 (by decide)) (by omega))
  rwa [(hasB_iff _ _ _ _ _ _ (by omega)).2 ⟨by rw [x5];exact q1,by rw [y5];exact q2⟩] at s
 obtain ⟨M,hM⟩:=nm9 (mkM a (-((4:Nat):Int)))
 obtain ⟨E,hE⟩:=nm9 (mkE a (-((4:Nat):Int)))
 obtain ⟨N,hN⟩:=nm9 (mkM b (-((4:Nat):Int)))
 obtain ⟨G,hG⟩:=nm9 (mkE b (-((4:Nat):Int)))
 rw [hM,hE,hN,hG] at g6
 rw [hM,hN] at L ⊢
 rw [hE,hG]
 have G6:=Hd9 g6
 clear g6 x1 x2 x3 x5 y1 y2 y3 y5 q1 q2 zU zL ea eb za zb hM hE hN hG G1 G2
 replace L:=L.varI w2.heap.size rfl (ng M) A2 (zl M) c2 E (ng N) B2 (zl N) d2 G
 obtain ⟨cel00,cel01,cel02,cel03,cel04,cel05⟩:=L.b0.a6
 go_wp2_with fail
 clear cel00 cel01 cel02 cel03 cel04 cel05
 obtain ⟨b1,hb1⟩:=nm9 (w2.heap.size)
 rw [hb1] at L ⊢
 clear hb1
 refine (G4.out _).mono ?_
 rintro e w3 ⟨vv,rfl,ii,be⟩
 obtain ⟨A4,c4,B4,d4,rfl,ia,ib⟩:=ii.form
 replace L:=((L.step be).n ib).n ia
 clear be ii ia ib
 have hl2:=L.b0.lt
 replace L:=L.varI w3.heap.size rfl (ng 0) A4 (zl 0) c4 0 (ng 0) B4 (zl 0) d4 0
 obtain ⟨cel00,cel01,cel02,cel03,cel04,cel05⟩:=L.b0.a6
 go_wp2_with fail
 clear cel00 cel01 cel02 cel03 cel04 cel05
 obtain ⟨b2,hb2⟩:=nm9 (w3.heap.size)
 rw [hb2] at L hl2 ⊢
 clear hb2
 replace L:=L.drew
 obtain ⟨cel10,cel11,cel12,cel13,cel14,cel15⟩:=L.tl.b0.a6
 go_region_held3 (fun w' => w'.cell? ⟨b1,0,none⟩ = some (.bool (ng M))∧w'.cell? ⟨b1,1,none⟩ = some (.slice A2 (zl M) c2)∧w'.cell? ⟨b1,2,none⟩ = some (.int .i64 E)∧w'.cell? ⟨b1,3,none⟩ = some (.bool (ng N))∧w'.cell? ⟨b1,4,none⟩ = some (.slice B2 (zl N) d2)∧w'.cell? ⟨b1,5,none⟩ = some (.int .i64 G)) (first | (with_reducible exact ⟨L.tl.b0.c60,L.tl.b0.c61,L.tl.b0.c62,L.tl.b0.c63,L.tl.b0.c64,L.tl.b0.c65⟩) | exact ⟨L.tl.b0.c60,L.tl.b0.c61,L.tl.b0.c62,L.tl.b0.c63,L.tl.b0.c64,L.tl.b0.c65⟩) (first | (go_at_call 41;(with_reducible refine (G5.out _ ).mono ?_);rintro e wh ⟨vh,rfl,iq,be⟩;replace L:=(L.step be).q iq;clear be iq) | (go_at_call 40;(with_reducible refine (G6.out _ _ _ ?_ ?_ ).mono ?_);(· (refine isI_n (L.getN ?_) (L.getN ?_);all_goals (repeat (first | (with_reducible exact mS) | apply mT))));(· (refine L.getQ ?_;(repeat (first | (with_reducible exact mS) | apply mT))));rintro e wh ⟨rfl,be⟩;replace L:=L.step be;clear be))
 (try go_wp2_with fail)
 (try go_ret)
 exact ⟨rfl,L.below⟩

section
open Go.ChangeShapes Go.WideShapes Go.ChangeAt

theorem open_slice8 {H:Type} {enc:TypeId × Value → H} {W:World} {base:Nat} {fuel:Nat} {v:Value} {x:DataW H × List MemPlace} (h:DataW.trod enc Tryz.prog W base (fun _ => true) true fuel 22 [v] = some x):∃ a n c l,v = .slice a n c∧Sl W a n c l:=by
 rcases open_ints Tryz.underlying22 Tryz.underlying140 (by kernel_rfl) h with ⟨hcs,_⟩ | ⟨x,l,c,zs,hcs,_,hl,hm,hz,_,hcell,hwz⟩
 ·exact ⟨none,0,0,[],by simpa using hcs,Sl.nil W⟩
 ·exact ⟨_,_,_,_,by simpa using hcs,sl_of_ints hl hm (by simpa using hz) hcell hwz⟩
theorem open_dy {H:Type} {enc:TypeId × Value → H} {W:World} {r:Reach} {b0 base:Nat} {v:Value} {d:DataW H} {p:List MemPlace} (hv:Value.okWide Tryz.prog W r b0 26 v) (h:DataW.Trod enc Tryz.prog W base (fun _ => true) true 26 v d p) :
  ∃ b A n c l e,v = .agg #[.bool b,.slice A n c,.int .i64 e]∧Sl W A n c l∧-9223372036854775808≤e∧e≤9223372036854775807:=by
 obtain ⟨cs,rfl,hsz⟩:=okWide_struct Tryz.underlying26 hv
 obtain ⟨c0,c1,c2,rfl⟩:=Go.Joins.array3 (hsz.trans (show Tryz.prog.cellsOf 26 = 3 by kernel_rfl))
 obtain ⟨fuel,hf⟩:=h
 obtain ⟨y0,y1,n,_,_,h0,h1⟩:=trod_struct2 Tryz.underlying26 hf
 have e0:Tryz.prog.cellsOf 24 = 2:=by kernel_rfl
 have e1:Tryz.prog.cellsOf 22 = 1:=by kernel_rfl
 have e3:Tryz.prog.cellsOf 3 = 1:=by kernel_rfl
 have h0':DataW.trod enc Tryz.prog W base (fun _ => true) true n 24 [c0,c1] = some y0:=by
  simpa [Value.cells,e0] using h0
 have h1':DataW.trod enc Tryz.prog W base (fun _ => true) true n 3 [c2] = some y1:=by
  simpa [Value.cells,e3] using h1
 obtain ⟨z0,z1,n2,_,_,g0,g1⟩:=trod_struct2 Tryz.underlying24 h0'
 have e2:Tryz.prog.cellsOf 4 = 1:=by kernel_rfl
 have g0':DataW.trod enc Tryz.prog W base (fun _ => true) true n2 4 [c0] = some z0:=by
  simpa [e2] using g0
 have g1':DataW.trod enc Tryz.prog W base (fun _ => true) true n2 22 [c1] = some z1:=by
  simpa [e1] using g1
 obtain ⟨b,hb,_⟩:=DataW.trod_bool Tryz.underlying4 g0'
 obtain rfl:c0 = .bool b:=by simpa using hb
 obtain ⟨A,n3,c3,l,rfl,s1⟩:=open_slice8 g1'
 obtain ⟨e,he,_,hw⟩:=DataW.trod_int Tryz.underlying3 h1'
 obtain rfl:c2 = .int .i64 e:=by simpa using he
 obtain ⟨k1,k2⟩:=bounds_i64 hw
 exact ⟨b,A,n3,c3,l,e,rfl,s1,k1,k2⟩

end

end Go.Proofs.YtiddbhhhmeopeaaGreatDoor
