/- Joined: AtC, AtD, AtE, IvPE, AtPE, RefCoD, ExQ, ExK, AtL, Awake16, DyOpen, IvOpen (what the law leans on). -/
import Derived.Test.YtmgbjldogggpcaaGreatDoorBaseIO
import Derived.Test.YtmgbjldogggpcaaGreatDoorBaseJO
import Derived.Test.YtmgbjldogggpcaaGreatDoorBaseDO
import Derived.Test.YtmgbjldogggpcaaGreatDoorBaseEO
import Derived.Test.YtmgbjldogggpcaaGreatDoorBaseVO
import Derived.Test.YtmgbjldogggpcaaGreatDoorBaseFO
import Derived.Test.YtmgbjldogggpcaaGreatDoorRefDivModO
import Derived.Test.YtmgbjldogggpcaaGreatDoorBaseWO
import Derived.Test.YtmgbjldogggpcaaGreatDoorRefGrBO
import Derived.Test.YtmgbjldogggpcaaGreatDoorBaseXO
import Derived.Test.YtmgbjldogggpcaaGreatDoorGrPCO
import Derived.Test.YtmgbjldogggpcaaGreatDoorBaseZO
import Derived.Test.YtmgbjldogggpcaaGreatDoorBaseUO
import Derived.Test.YtmgbjldogggpcaaGreatDoorJO1
import Derived.Test.YtmgbjldogggpcaaGreatDoorJO2
import Derived.BigQuiet
import Derived.ChangeOld
import Derived.Deep.Cut
import Derived.Deep.CutRange
import Derived.Deep.DrawnRows
import Derived.Deep.QuietTactic
import Derived.Deep.RegionHeld3
import Derived.Lib.SmallJoins
import Derived.OpenShut
import Derived.ProofKit
namespace Go.Proofs.YtmgbjldogggpcaaGreatDoor
set_option maxHeartbeats 64000000
open Go.RowKit
set_option linter.unusedVariables false
set_option linter.unusedSimpArgs false
set_option maxRecDepth 100000
attribute [local go_sem ↓] Go.wp_at_zero Go.wp_at_succ

theorem cut_fl (a b : Int) (p : Nat) : cutQ (dq a (-(p : Int)) * dq b (-(p : Int))) (p : Int) = a * b / 2 ^ p:=by
 refine cut_unique (dq_fl a b p).1 ?_
 have t:=two_cast p
 have u:=dq_pos (-(p : Int))
 have hp:=pow2_pos p
 have h2 : a * b < (a * b / 2 ^ p + 1) * 2 ^ p:=Int.lt_ediv_add_one_mul_self _ hp
 have c2:=Rat.intCast_lt_intCast.2 h2
 rw [Rat.intCast_mul, Rat.intCast_mul, Rat.intCast_add] at c2
 rw [dq_scale a, dq_scale b, dq_scale (a * b / 2 ^ p)]
 generalize dq 1 (-(p : Int)) = U at *
 generalize (((2 : Int) ^ p : Int) : Rat) = T at *
 generalize ((a * b / 2 ^ p : Int) : Rat) = F at *
 have o : ((1 : Int) : Rat) = 1:=rfl
 rw [o] at c2
 have m2:=Rat.mul_lt_mul_of_pos_right c2 (Rat.mul_pos u u)
 have e2 : (F + 1) * T * (U * U) = (F + 1) * U * (T * U):=by grind
 rw [e2, t] at m2
 grind
theorem cut_int (P : Int) {k : Int} (hk : 0 < k) (p : Nat) : cutQ (dq P (-(p : Int)) / dq k 0) (p : Int) = P / k:=by
 have u:=dq_pos (-(p : Int))
 have kk : (0 : Rat) < (k : Rat):=Rat.intCast_lt_intCast.2 hk
 have e0 : dq k 0 = (k : Rat):=dq_int k
 rw [e0]
 have dv : dq P (-(p : Int)) / (k : Rat) * (k : Rat) = dq P (-(p : Int)):=Rat.div_mul_cancel (Rat.ne_of_gt kk)
 refine cut_unique (le_of_mul kk (by rw [dv]; exact fdiv_le hk _)) ?_
 refine lt_of_mul9 kk ?_
 rw [dv, ← dq_succ, dq_scale (P / k + 1), dq_scale P]
 have c:=Rat.intCast_lt_intCast.2 (Int.lt_ediv_add_one_mul_self P hk)
 rw [Rat.intCast_mul] at c
 have m:=Rat.mul_lt_mul_of_pos_right c u
 grind
theorem cmp_z {x : Int} : cmpI x 0 = 0 ↔ x = 0:=by
 unfold cmpI
 (repeat' split) <;> omega
theorem mk_z {x e : Int} (h : mkR x e = 0) : mkM x e = 0 ↔ x = 0:=by
 have q:=dq_mk h
 constructor
 ·intro h0
  rw [h0, dq_zero] at q
  have a:=(dq_le_iff x 0 e).1 (by rw [dq_zero, ← q]; exact Rat.le_refl)
  have b:=(dq_le_iff 0 x e).1 (by rw [dq_zero, ← q]; exact Rat.le_refl)
  omega
 ·intro h0
  subst h0
  rw [dq_zero] at q
  have a:=(dq_le_iff (mkM 0 e) 0 (mkE 0 e)).1 (by rw [dq_zero, q]; exact Rat.le_refl)
  have b:=(dq_le_iff 0 (mkM 0 e) (mkE 0 e)).1 (by rw [dq_zero, q]; exact Rat.le_refl)
  omega
def RetAs (w : World) (X Q : Int) (p : Nat) (en : Ending) (w' : World) : Prop:=∃ n, n ≤ 60 ∧ pwA Q X p n = 0 ∧ RetD8 w (mkM (smA Q X p n) (-(p : Int))) (mkE (smA Q X p n) (-(p : Int))) en w'
theorem unit_ab {x : Int} {p : Nat} (h0 : 0 ≤ x) (h : x * 1024 ≤ 2 ^ p) : AbP x p:=by
 have e : ((2 ^ p : Nat) : Int) = 2 ^ p:=by push_cast; rfl
 unfold AbP
 omega
theorem unit_dq {x : Int} {p : Nat} (h0 : 0 ≤ x) (h : x * 1024 ≤ 2 ^ p) : 0 ≤ dq x (-(p : Int)) ∧ dq x (-(p : Int)) ≤ 1:=by
 have a:=(dq_le_iff 0 x (-(p : Int))).2 h0
 have b:=(dq_le_iff x (2 ^ p) (-(p : Int))).2 (by omega)
 rw [dq_zero] at a
 rw [dq_scale (2 ^ p), two_cast] at b
 exact ⟨a, b⟩
structure SeA (X Q : Int) (p j : Nat) (MP EP MT ET : Int) : Prop where
 b : j = 0 ∨ 20 * (j - 1) + 10 ≤ p
 mp : mkM (pwA Q X p j) (-(p : Int)) = MP
 ep : mkE (pwA Q X p j) (-(p : Int)) = EP
 mt : mkM (smA Q X p j) (-(p : Int)) = MT
 et : mkE (smA Q X p j) (-(p : Int)) = ET

theorem tser_any (X Q : Int) (p : Nat) (vx : Value) (w : World) (hx : IsD w vx (mkM X (-(p : Int))) (mkE X (-(p : Int)))) (hX : SmX X Q p) (hp : p ≤ 700) (hT : Tab w) :
  Calls Tryz.prog 145 #[vx, .int .i64 (p : Int)] w (RetAs w X Q p):=by
 obtain ⟨A, c, rfl, _, hn⟩:=hx.form
 have L0:=(Lq.mk0 w).n hn
 have HT:=Hd9 (fun W (hW : Below w.heap.size w W) => hT.mono hW)
 have HX:=Hd9 hX
 have HP:=Hd9 hp
 have aX:=unit_ab hX.nn hX.lt
 have qq:=hX.q
 have aQ : AbP Q p:=unit_ab qq.1 (by omega)
 obtain ⟨n1, n2, n3, n4, n5⟩:=nx (x := -(p : Int)) aX (by omega) (by omega)
 obtain ⟨q1, q2, q3, q4, q5⟩:=nx (x := -(p : Int)) aQ (by omega) (by omega)
 have g1:=fun x y W h j (hW : Below w.heap.size w W) => tprod_any (mkM X (-(p : Int))) (mkE X (-(p : Int))) (mkM X (-(p : Int))) (mkE X (-(p : Int))) Q p x y W h j (by omega) (by omega) (by omega) (by omega) (by rw [n5, cut_fl]; exact hX.sq.symm) (aQ.up (by omega)) (by omega) (hT.mono hW)
 have G1:=Hd9 g1
 have HQ:=Hd9 (And.intro q2 (And.intro q3 q5))
 have HJ0:=Hd9 (show SeA X Q p 0 (mkM X (-(p : Int))) (mkE X (-(p : Int))) 0 0 from ⟨Or.inl rfl, rfl, rfl, (nx_zero (by omega)).1, (nx_zero (by omega)).2⟩)
 clear g1 n1 n2 n3 n4 n5 q1 q2 q3 q4 q5 qq aX aQ hX hT hx hn
 obtain ⟨M0, hM0⟩:=nm9 (mkM X (-(p : Int)))
 rw [hM0] at G1 L0 HJ0 ⊢
 clear hM0
 obtain ⟨E0, hE0⟩:=nm9 (mkE X (-(p : Int)))
 rw [hE0] at G1 HJ0 ⊢
 clear hE0
 obtain ⟨MQ, hMQ⟩:=nm9 (mkM Q (-(p : Int)))
 rw [hMQ] at G1 HQ
 clear hMQ
 obtain ⟨EQ, hEQ⟩:=nm9 (mkE Q (-(p : Int)))
 rw [hEQ] at G1 HQ
 clear hEQ
 go_enter Tryz.func145, Tryz.ntmps145
 have L:=((L0.varD (w.heap.size) (by simp) (ng M0) A (zl M0) c E0).varD (w.heap.size + 1) (by simp) false none 0 0 0)
 obtain ⟨c10,c11,c12⟩:=L.tl.b0.a3
 (try go_wp2_with fail)
 refine (G1.out _ _ _ (isD_n (m:=M0) (e:=E0) (s:=.slice A (zl M0) c) (L.getN (by simp))) (isD_n (m:=M0) (e:=E0) (s:=.slice A (zl M0) c) (L.getN (by simp))) L.below).mono ?_
 rintro e w1 ⟨v9, rfl, iz, be⟩
 clear c10 c11 c12
 obtain ⟨A1, c1, rfl, _, in9⟩:=iz.form
 replace L:=(L.step be).n in9
 clear be iz in9
 have hl9:=L.b0.lt
 obtain ⟨gq, hgq⟩:=nm9 (w1.heap.size)
 have L1:=L.varD gq hgq.symm (ng MQ) A1 (zl MQ) c1 EQ
 have L2:=L1.varD (gq + 1) (by simp; omega) false none 0 0 0
 have L3:=L2.varD (gq + 2) (by simp; omega) (ng M0) A (zl M0) c E0
 rw [hgq] at hl9
 obtain ⟨u0,u1,u2⟩:=L1.b0.a3
 obtain ⟨v0,v1,v2⟩:=L2.b0.a3
 obtain ⟨x0,x1,x2⟩:=L2.tl.tl.tl.b0.a3
 obtain ⟨y0,y1,y2⟩:=L3.b0.a3
 obtain ⟨z0,z1,z2⟩:=L.tl.b0.a3
 have hsz : w1.heap.size = gq:=hgq
 go_wp2_with fail
 clear u0 u1 u2 v0 v1 v2 x0 x1 x2 y0 y1 y2 z0 z1 z2
 have hgr : w.heap.size + 1 < gq:=hl9
 clear hsz hl9 L L1 L2
 go_loopw [8] (fun i wr => ∃ (j : Nat) (MP EP MT ET : Int) (B C : Option Addr) (d d2 : Nat), i = .int .i64 (2 * (j : Int) + 1) ∧ Lq w wr [(.slice B (zl MP) d, MP.natAbs), (.slice C (zl MT) d2, MT.natAbs), (.slice A1 (zl MQ) c1, MQ.natAbs)] [] [] [(gq + 2, 26, #[.bool (ng MP), .slice B (zl MP) d, .int .i64 EP]), (gq + 1, 26, #[.bool (ng MT), .slice C (zl MT) d2, .int .i64 ET]), (gq, 26, #[.bool (ng MQ), .slice A1 (zl MQ) c1, .int .i64 EQ]), (w.heap.size + 1, 26, #[.bool false, .slice none 0 0, .int .i64 0])] ∧ Hid (SeA X Q p j MP EP MT ET)) (fun i _ => (2000 - intOf i).toNat)
 case atStart =>
  refine ⟨0, M0, E0, 0, 0, A, none, c, 0, by go_num, ?_, HJ0⟩
  have zz0 : zl 0 = 0:=zl_zero
  have nn0 : ng 0 = false:=rfl
  rw [zz0, nn0]
  exact (L3.n (IsN.zero _)).subx (by simp) (by simp)
 case round =>
  clear L3 HJ0
  obtain ⟨j, MP, EP, MT, ET, B, C, d, d2, rfl, L, HJ⟩:=hrel
  have hX:=HX.out
  have hp:=HP.out
  obtain ⟨hb, hmp, hep, hmt, het⟩:=HJ.out
  have hj60 : j ≤ 60:=by omega
  have pn:=pw_nn hX j
  have pl:=pw_le hX j
  have xl:=hX.lt
  have aP:=unit_ab pn (show pwA Q X p j * 1024 ≤ 2 ^ p by omega)
  have uP:=unit_dq pn (show pwA Q X p j * 1024 ≤ 2 ^ p by omega)
  have aT:=sm_ab hX (n:=j) (by omega)
  obtain ⟨t1, t2, t3, t4, t5⟩:=nx (x := -(p : Int)) aP (by omega) (by omega)
  obtain ⟨s1, s2, s3, s4, s5⟩:=nx (x := -(p : Int)) aT (by omega) (by omega)
  have hz:=mk_z t1
  rw [hmp] at t2 t4 t5 hz
  rw [hep] at t3 t4 t5
  rw [hmt] at s2 s4 s5
  rw [het] at s3 s4 s5
  have gs:=fun v W h => dsign_any MP EP v W h (by omega)
  obtain ⟨sg, hsg⟩:=nm9 (cmpI MP 0)
  have hc:=cmp_z (x:=MP)
  rw [hsg] at gs hc
  have hl0:=L.b0.lt
  by_cases hz0 : sg = 0
  ·subst hz0
   have GS:=Hd9 gs
   have hend:=hz.1 (hc.1 rfl)
   have HR:=Hd9 (show ∃ n, n ≤ 60 ∧ pwA Q X p n = 0 ∧ mkM (smA Q X p n) (-(p : Int)) = MT ∧ mkE (smA Q X p n) (-(p : Int)) = ET from ⟨j, hj60, hend, hmt, het⟩)
   clear gs hz hc hsg hend hX hp hb hmp hep hmt het hj60 pn pl xl aP uP aT t1 t2 t3 t4 t5 s1 s2 s3 s4 s5 HJ
   obtain ⟨cel00,cel01,cel02⟩:=L.b0.a3
   (try go_wp2_with fail)
   refine (GS.out _ _ (isD_n (m:=MP) (e:=EP) (s:=.slice B (zl MP) d) (L.getN (by simp)))).mono ?_
   rintro e w41 ⟨rfl, be⟩
   clear cel00 cel01 cel02
   replace L:=L.step be
   clear be
   have hv9:=L.tl.b0
   have hl9:=hv9.lt
   have L9:=L.subx (ns':=[(.slice C (zl MT) d2, MT.natAbs)]) (bs':=[(w.heap.size + 1, 26, #[.bool false, .slice none 0 0, .int .i64 0]), (gq + 1, 26, #[.bool (ng MT), .slice C (zl MT) d2, .int .i64 ET])]) (by simp) (by simp)
   clear L hv9
   have L:=L9
   clear L9
   have n9 : w.heap.size + 1 ≠ gq + 1:=by omega
   obtain ⟨cel00,cel01,cel02⟩:=L.b0.a3
   obtain ⟨f00,f01,f02⟩:=L.b0.f3
   obtain ⟨cel10,cel11,cel12⟩:=L.tl.b0.a3
   (try go_wp2_with fail)
   clear cel00 f00 cel01 f01 cel02 f02 cel10 cel11 cel12
   obtain ⟨n, hn1, hn2, hn3, hn4⟩:=HR.out
   have LP:=L.putD (by omega) (by first | (simp; done) | (simp; omega)) (ng MT) C (zl MT) d2 (ET)
   obtain ⟨k0,k1,k2⟩:=LP.b0.a3
   unfold put3 at k0 k1 k2
   exact bodyPost_ret (v:=.agg #[.bool (ng MT), .slice C (zl MT) d2, .int .i64 (ET)]) (by simp [results, Tryz.results145, go_sem, k0, k1, k2]) rfl ⟨n, hn1, hn2, _, rfl, by rw [hn3, hn4]; exact isD_n (LP.getN (by simp)), LP.below⟩
  ·have GS:=Hd9 gs
   have hpz : pwA Q X p j ≠ 0:=fun h => hz0 (hc.2 (hz.2 h))
   have hj2:=pw_end hX hpz
   have hsb : (sg != 0) = true:=by simp [hz0]
   have hk : (0 : Int) < 2 * (j : Int) + 1:=by omega
   obtain ⟨N, hN⟩:=nm9 (2 * (j : Int) + 1)
   have aN : AbP N 14:=by
    have e : (2 : Nat) ^ 14 = 16384:=by decide
    unfold AbP
    rw [e]
    omega
   obtain ⟨o1, o2, o3, o4, o5⟩:=nx (x:=0) aN (by omega) (by omega)
   have g2:=fun W (hW : Below w.heap.size w W) => dof_any N W (by omega) (by omega) (HT.out W hW)
   obtain ⟨T, hT9⟩:=nm9 (pwA Q X p j / N)
   have hT0 : 0 ≤ T:=by rw [← hT9]; exact Int.ediv_nonneg pn (by omega)
   have hT1 : T ≤ pwA Q X p j:=by rw [← hT9]; exact Int.ediv_le_self _ pn
   have aTt:=unit_ab hT0 (show T * 1024 ≤ 2 ^ p by omega)
   have n1 : (1 : Rat) ≤ dq N 0:=by
    rw [dq_int]
    have:=Rat.intCast_le_intCast.2 (show (1 : Int) ≤ N by omega)
    exact this
   have g3:=fun x y W h i (hW : Below w.heap.size w W) => tquot_any MP EP (mkM N 0) (mkE N 0) T p x y W h i t4 o4 (by omega) (by omega) (by omega) (by omega) (by rw [t5]; exact uP.1) (by rw [t5]; exact uP.2) (by rw [o5]; grind) (by rw [t5, o5, cut_int _ (by omega)]; exact hT9) (by omega) (HT.out W hW)
   obtain ⟨r1, r2, r3, r4, r5⟩:=nx (x := -(p : Int)) aTt (by omega) (by omega)
   obtain ⟨q2, q3, q5⟩:=HQ.out
   have g7:=fun x y W h i (hW : Below w.heap.size w W) => tprod_any MP EP MQ EQ (pwA Q X p (j + 1)) p x y W h i (by omega) (by omega) (by omega) (by omega) (by rw [t5, q5, cut_fl]; rfl) ((unit_ab (p:=p) (pw_nn hX (j + 1)) (by have:=pw_le hX (j + 1); omega)).up (by omega)) (by omega) (HT.out W hW)
   have w1 : IntKind.i64.wrap (N + 2) = 2 * ((j + 1 : Nat) : Int) + 1:=by rw [IntKind.wrap_i64]; omega
   have evc:=evn_succ j
   have es : smA Q X p (j + 1) = smA Q X p j + (if evn j then T else -T):=by rw [← hT9, ← hN]; rfl
   have hev : evn j = decide (j % 2 = 0):=rfl
   cases he : evn j
   ·rw [he] at es hev
    have hm : N.tmod 4 = 3:=by
     have:=of_decide_eq_false hev.symm
     rw [Int.tmod_eq_emod_of_nonneg (by omega)]
     omega
    have es2 : smA Q X p (j + 1) = smA Q X p j - T:=by rw [es]; rw [Int.sub_eq_add_neg]; rfl
    have g5:=fun v W h => dneg_any (mkM T (-(p : Int))) (mkE T (-(p : Int))) v W h (by omega)
    have zn:=zl_neg (mkM T (-(p : Int)))
    have g6:=fun x y W h i (hW : Below w.heap.size w W) => dadd_any MT ET (-mkM T (-(p : Int))) (mkE T (-(p : Int))) x y W h i (by omega) (by omega) (by omega) (by omega) (HT.out W hW)
    have nxs:=nx_sub (x := -(p : Int)) aT aTt (by omega) (by omega)
    rw [hmt, het] at nxs
    obtain ⟨y1, y2, y3⟩:=nxs
    rw [y1, y2, y3, ← es2] at g6
    have HJ2:=Hd9 (show SeA X Q p (j + 1) (mkM (pwA Q X p (j + 1)) (-(p : Int))) (mkE (pwA Q X p (j + 1)) (-(p : Int))) (mkM (smA Q X p (j + 1)) (-(p : Int))) (mkE (smA Q X p (j + 1)) (-(p : Int))) from ⟨Or.inr (by omega), rfl, rfl, rfl, rfl⟩)
    have G2:=Hd9 g2
    have G3:=Hd9 g3
    have G5:=Hd9 g5
    have G6:=Hd9 g6
    have G7:=Hd9 g7
    have HM:=Hd9 (And.intro hj60 hN)
    clear g2 g3 g5 g6 g7 gs hz hc hsg hX hp hb hmp hep hmt het hj60 pn pl xl aP uP aT t1 t2 t3 t4 t5 s1 s2 s3 s4 s5 HJ hpz hj2 hk aN o1 o2 o3 o4 o5 hT9 hT0 hT1 aTt n1 r1 r2 r3 r4 r5 q2 q3 q5 evc es hev es2 zn y1 y2 y3 he HQ
    rw [hN]
    obtain ⟨MP2, hMP2⟩:=nm9 (mkM (pwA Q X p (j + 1)) (-(p : Int)))
    rw [hMP2] at G7 HJ2
    clear hMP2
    obtain ⟨EP2, hEP2⟩:=nm9 (mkE (pwA Q X p (j + 1)) (-(p : Int)))
    rw [hEP2] at G7 HJ2
    clear hEP2
    obtain ⟨MT2, hMT2⟩:=nm9 (mkM (smA Q X p (j + 1)) (-(p : Int)))
    rw [hMT2] at G6 HJ2
    clear hMT2
    obtain ⟨ET2, hET2⟩:=nm9 (mkE (smA Q X p (j + 1)) (-(p : Int)))
    rw [hET2] at G6 HJ2
    clear hET2
    obtain ⟨Mt, hMt⟩:=nm9 (mkM T (-(p : Int)))
    rw [hMt] at G3 G5 G6
    clear hMt
    obtain ⟨Et, hEt⟩:=nm9 (mkE T (-(p : Int)))
    rw [hEt] at G3 G5 G6
    clear hEt
    obtain ⟨Mo, hMo⟩:=nm9 (mkM N 0)
    rw [hMo] at G2 G3
    clear hMo
    obtain ⟨Eo, hEo⟩:=nm9 (mkE N 0)
    rw [hEo] at G2 G3
    clear hEo
    obtain ⟨cel00,cel01,cel02⟩:=L.b0.a3
    (try go_wp2_with fail)
    refine (GS.out _ _ (isD_n (m:=MP) (e:=EP) (s:=.slice B (zl MP) d) (L.getN (by simp)))).mono ?_
    rintro e w41 ⟨rfl, be⟩
    clear cel00 cel01 cel02
    replace L:=L.step be
    clear be
    have hl_gp:=L.b0.lt
    (try go_wp2_with fail)
    obtain ⟨V, hV, L9⟩:=L.name
    rw [hV]
    clear hV L
    have L:=L9
    clear L9
    have Q0:=Hd9 (fun Z (hZ : Below V.heap.size V Z) => (L.b0.mono hZ).c30)
    have Q1:=Hd9 (fun Z (hZ : Below V.heap.size V Z) => (L.b0.mono hZ).c31)
    have Q2:=Hd9 (fun Z (hZ : Below V.heap.size V Z) => (L.b0.mono hZ).c32)
    have hb0:=L.b0.lt
    have D0 : Dq V V [(.slice B (zl MP) d, (MP : Int).natAbs)] [] [] []:=⟨((Lq.mk0 V).n (L.getN (v:=.slice B (zl MP) d) (x:=(MP : Int).natAbs) (by simp))), List.nodup_nil, fun p hp => by cases hp⟩
    have D:=D0.drew
    have hVw:=L.below.size
    have HVW:=Hd9 (fun Z (hZ : Below V.heap.size V Z) => L.below.trans (hZ.mono hVw))
    have LL:=Hd9 L
    clear L
    obtain ⟨K, hK⟩:=nm9 (V.heap.size)
    have hz0 : K ≤ V.heap.size:=by omega
    have hmd : V.drew.heap.size = K:=hK
    have hc0 : gq + 2 < K:=by omega
    go_cut [9] from 21 to 25 (fun s0 wx => Made1D V Mt Et s0 wx)
    case first =>
     go_region_held3 (fun w' => w'.cell? ⟨gq + 2, 0, none⟩ = some (.bool (ng MP)) ∧ w'.cell? ⟨gq + 2, 1, none⟩ = some (.slice B (zl MP) d) ∧ w'.cell? ⟨gq + 2, 2, none⟩ = some (.int .i64 EP)) (((try dsimp only); refine ⟨?_, ?_, ?_⟩ <;> (repeat (first | (with_reducible exact Q0.out _ D.lq.below) | (with_reducible exact Q0.out _ D0.lq.below) | (with_reducible exact Q1.out _ D.lq.below) | (with_reducible exact Q1.out _ D0.lq.below) | (with_reducible exact Q2.out _ D.lq.below) | (with_reducible exact Q2.out _ D0.lq.below) | (with_reducible refine c_alloc _ ?_) | (with_reducible refine c_drew ?_) | (with_reducible refine c_set ?_ (by assumption) ?_) | omega)))) (first | (go_at_call 92; (with_reducible refine (G2.out _ ?_).mono ?_); (· (first | (with_reducible exact HVW.out _ D.lq.below) | (with_reducible exact HVW.out _ (D.boxD false none 0 0 0).lq.below) | (with_reducible exact HVW.out _ (D0.boxD false none 0 0 0).drew.lq.below))); rintro e9 wh ⟨vh, rfl, id, be⟩; obtain ⟨A7, c7, rfl, _, in9⟩:=id.form; (first | (replace D:=D.step be) | (replace D:=(D.boxMD hmd false none 0 0 0).step be) | (replace D:=(D.boxD false none 0 0 0).step be)); have hz:=be.size; (try simp at hz); replace D:=D.n in9; (try (obtain ⟨x00,x01,x02⟩:=D.lq.b0.a3; obtain ⟨y00,y01,y02⟩:=D.lq.b0.f3)); (try obtain ⟨na, nb, nc, nd, nl⟩:=D.n0)) | (go_at_call 146; (with_reducible refine (G3.out _ _ _ ?_ ?_ ?_).mono ?_); (· (first | (with_reducible refine isD_n (D.getN ?_); (repeat (first | (with_reducible exact mS) | apply mT))) | (with_reducible refine isD_n ((D.boxD false none 0 0 0).getN ?_); (repeat (first | (with_reducible exact mS) | apply mT))) | (with_reducible refine isD_n ((D0.boxD false none 0 0 0).drew.getN ?_); (repeat (first | (with_reducible exact mS) | apply mT))))); (· (first | (with_reducible refine isD_n (D.getN ?_); (repeat (first | (with_reducible exact mS) | apply mT))) | (with_reducible refine isD_n ((D.boxD false none 0 0 0).getN ?_); (repeat (first | (with_reducible exact mS) | apply mT))) | (with_reducible refine isD_n ((D0.boxD false none 0 0 0).drew.getN ?_); (repeat (first | (with_reducible exact mS) | apply mT))))); (· (first | (with_reducible exact HVW.out _ D.lq.below) | (with_reducible exact HVW.out _ (D.boxD false none 0 0 0).lq.below) | (with_reducible exact HVW.out _ (D0.boxD false none 0 0 0).drew.lq.below))); rintro e9 wh ⟨vh, rfl, id, be⟩; obtain ⟨A8, c8, rfl, _, in9⟩:=id.form; (first | (replace D:=D.step be) | (replace D:=(D.boxMD hmd false none 0 0 0).step be) | (replace D:=(D.boxD false none 0 0 0).step be)); have hz:=be.size; (try simp at hz); replace D:=D.n in9; (try (obtain ⟨x00,x01,x02⟩:=D.lq.b0.a3; obtain ⟨y00,y01,y02⟩:=D.lq.b0.f3)); (try obtain ⟨na, nb, nc, nd, nl⟩:=D.n0)))
     all_goals
      go_wp2_with fail
      go_meet
      first
      | ((with_reducible refine made1d_a D ?_) <;> (repeat (first | (with_reducible exact mS) | apply mT)))
      | ((with_reducible refine made1d_b D ?_) <;> (repeat (first | (with_reducible exact mS) | apply mT)))
    case rest =>
     obtain ⟨gn, A9, c9, rfl, hg9, bw, hb9, q1⟩:=hcut
     have L:=((LL.out.step bw).n q1).b hb9
     have hl_gn:=hg9
     clear D D0 hmd LL hb9 q1 bw hg9 HVW Q0 Q1 Q2 hc0
     generalize wc = wd41 at *
     obtain ⟨cel00,cel01,cel02⟩:=L.b0.a3
     (try go_wp2_with fail)
     refine (G5.out _ _ (isD_n (m:=Mt) (e:=Et) (s:=.slice A9 (zl Mt) c9) (L.getN (by simp)))).mono ?_
     rintro e w43 ⟨v9, rfl, iz, be⟩
     clear cel00 cel01 cel02
     obtain ⟨A5, c5, rfl, _, in9⟩:=iz.form
     replace L:=(L.step be).n in9
     clear be iz in9
     obtain ⟨cel00,cel01,cel02⟩:=L.b0.a3
     obtain ⟨f00,f01,f02⟩:=L.b0.f3
     have P:=L.putD (by omega) (by first | (simp; done) | (simp; omega)) (ng (-Mt)) A5 (zl (-Mt)) c5 Et
     obtain ⟨p00,p01,p02⟩:=P.b0.a3
     obtain ⟨p20,p21,p22⟩:=P.tl.tl.b0.a3
     unfold put3 at p00 p01 p02 p20 p21 p22 P
     go_wp2_with fail
     replace L:=P
     clear P p00 p01 p02 p20 p21 p22
     clear cel00 f00 cel01 f01 cel02 f02
     obtain ⟨Mn, hMn⟩:=nm9 (-Mt)
     rw [hMn] at L G6 ⊢
     clear hMn
     refine (G6.out _ _ _ (isD_n (m:=MT) (e:=ET) (s:=.slice C (zl MT) d2) (L.getN (by simp))) (isD_n (m:=Mn) (e:=Et) (s:=.slice A5 (zl Mn) c5) (L.getN (by simp))) L.below).mono ?_
     rintro e w44 ⟨v9, rfl, iz, be⟩
     obtain ⟨C5, d5, rfl, _, in9⟩:=iz.form
     replace L:=(L.step be).n in9
     clear be iz in9
     have L9:=L.subx (ns':=[(.slice B (zl MP) d, MP.natAbs), (.slice C5 (zl MT2) d5, MT2.natAbs), (.slice A1 (zl MQ) c1, MQ.natAbs)]) (bs':=[(gq + 1, 26, #[.bool (ng MT), .slice C (zl MT) d2, .int .i64 ET]), (gq + 2, 26, #[.bool (ng MP), .slice B (zl MP) d, .int .i64 EP]), (gq, 26, #[.bool (ng MQ), .slice A1 (zl MQ) c1, .int .i64 EQ]), (w.heap.size + 1, 26, #[.bool false, .slice none 0 0, .int .i64 0])]) (by simp) (by simp)
     clear L
     have L:=L9
     clear L9
     obtain ⟨cel00,cel01,cel02⟩:=L.b0.a3
     obtain ⟨f00,f01,f02⟩:=L.b0.f3
     have P:=L.putD (by omega) (by first | (simp; done) | (simp; omega)) (ng MT2) C5 (zl MT2) d5 ET2
     obtain ⟨p10,p11,p12⟩:=P.tl.b0.a3
     obtain ⟨p20,p21,p22⟩:=P.tl.tl.b0.a3
     unfold put3 at p10 p11 p12 p20 p21 p22 P
     go_wp2_with fail
     replace L:=P
     clear P p10 p11 p12 p20 p21 p22
     clear cel00 f00 cel01 f01 cel02 f02
     refine (G7.out _ _ _ (isD_n (m:=MP) (e:=EP) (s:=.slice B (zl MP) d) (L.getN (by simp))) (isD_n (m:=MQ) (e:=EQ) (s:=.slice A1 (zl MQ) c1) (L.getN (by simp))) L.below).mono ?_
     rintro e w45 ⟨v9, rfl, iz, be⟩
     obtain ⟨B5, d6, rfl, _, in9⟩:=iz.form
     replace L:=(L.step be).n in9
     clear be iz in9
     replace L:=L.swap
     obtain ⟨cel00,cel01,cel02⟩:=L.b0.a3
     obtain ⟨f00,f01,f02⟩:=L.b0.f3
     replace L:=L.putD (by omega) (by first | (simp; done) | (simp; omega)) (ng MP2) B5 (zl MP2) d6 EP2
     unfold put3 at L
     go_wp2_with fail
     go_roundw
     case rel => exact ⟨j + 1, MP2, EP2, MT2, ET2, B5, C5, d6, d5, by go_num, L.subx (by simp) (by simp), HJ2⟩
     case measure =>
      obtain ⟨hj60, hN⟩:=HM.out
      simp [intOf]
      omega
   ·rw [he] at es hev
    have hm : N.tmod 4 = 1:=by
     have:=of_decide_eq_true hev.symm
     rw [Int.tmod_eq_emod_of_nonneg (by omega)]
     omega
    have es2 : smA Q X p (j + 1) = smA Q X p j + T:=by rw [es]; rfl
    have g5:=fun v W h => dneg_any (mkM T (-(p : Int))) (mkE T (-(p : Int))) v W h (by omega)
    have zn:=zl_neg (mkM T (-(p : Int)))
    have g6:=fun x y W h i (hW : Below w.heap.size w W) => dadd_any MT ET (mkM T (-(p : Int))) (mkE T (-(p : Int))) x y W h i (by omega) (by omega) (by omega) (by omega) (HT.out W hW)
    have nxs:=nx_add (x := -(p : Int)) aT aTt (by omega) (by omega)
    rw [hmt, het] at nxs
    obtain ⟨y1, y2, y3⟩:=nxs
    rw [y1, y2, y3, ← es2] at g6
    have HJ2:=Hd9 (show SeA X Q p (j + 1) (mkM (pwA Q X p (j + 1)) (-(p : Int))) (mkE (pwA Q X p (j + 1)) (-(p : Int))) (mkM (smA Q X p (j + 1)) (-(p : Int))) (mkE (smA Q X p (j + 1)) (-(p : Int))) from ⟨Or.inr (by omega), rfl, rfl, rfl, rfl⟩)
    have G2:=Hd9 g2
    have G3:=Hd9 g3
    have G5:=Hd9 g5
    have G6:=Hd9 g6
    have G7:=Hd9 g7
    have HM:=Hd9 (And.intro hj60 hN)
    clear g2 g3 g5 g6 g7 gs hz hc hsg hX hp hb hmp hep hmt het hj60 pn pl xl aP uP aT t1 t2 t3 t4 t5 s1 s2 s3 s4 s5 HJ hpz hj2 hk aN o1 o2 o3 o4 o5 hT9 hT0 hT1 aTt n1 r1 r2 r3 r4 r5 q2 q3 q5 evc es hev es2 zn y1 y2 y3 he HQ
    rw [hN]
    obtain ⟨MP2, hMP2⟩:=nm9 (mkM (pwA Q X p (j + 1)) (-(p : Int)))
    rw [hMP2] at G7 HJ2
    clear hMP2
    obtain ⟨EP2, hEP2⟩:=nm9 (mkE (pwA Q X p (j + 1)) (-(p : Int)))
    rw [hEP2] at G7 HJ2
    clear hEP2
    obtain ⟨MT2, hMT2⟩:=nm9 (mkM (smA Q X p (j + 1)) (-(p : Int)))
    rw [hMT2] at G6 HJ2
    clear hMT2
    obtain ⟨ET2, hET2⟩:=nm9 (mkE (smA Q X p (j + 1)) (-(p : Int)))
    rw [hET2] at G6 HJ2
    clear hET2
    obtain ⟨Mt, hMt⟩:=nm9 (mkM T (-(p : Int)))
    rw [hMt] at G3 G5 G6
    clear hMt
    obtain ⟨Et, hEt⟩:=nm9 (mkE T (-(p : Int)))
    rw [hEt] at G3 G5 G6
    clear hEt
    obtain ⟨Mo, hMo⟩:=nm9 (mkM N 0)
    rw [hMo] at G2 G3
    clear hMo
    obtain ⟨Eo, hEo⟩:=nm9 (mkE N 0)
    rw [hEo] at G2 G3
    clear hEo
    obtain ⟨cel00,cel01,cel02⟩:=L.b0.a3
    (try go_wp2_with fail)
    refine (GS.out _ _ (isD_n (m:=MP) (e:=EP) (s:=.slice B (zl MP) d) (L.getN (by simp)))).mono ?_
    rintro e w41 ⟨rfl, be⟩
    clear cel00 cel01 cel02
    replace L:=L.step be
    clear be
    have hl_gp:=L.b0.lt
    (try go_wp2_with fail)
    obtain ⟨V, hV, L9⟩:=L.name
    rw [hV]
    clear hV L
    have L:=L9
    clear L9
    have Q0:=Hd9 (fun Z (hZ : Below V.heap.size V Z) => (L.b0.mono hZ).c30)
    have Q1:=Hd9 (fun Z (hZ : Below V.heap.size V Z) => (L.b0.mono hZ).c31)
    have Q2:=Hd9 (fun Z (hZ : Below V.heap.size V Z) => (L.b0.mono hZ).c32)
    have hb0:=L.b0.lt
    have D0 : Dq V V [(.slice B (zl MP) d, (MP : Int).natAbs)] [] [] []:=⟨((Lq.mk0 V).n (L.getN (v:=.slice B (zl MP) d) (x:=(MP : Int).natAbs) (by simp))), List.nodup_nil, fun p hp => by cases hp⟩
    have D:=D0.drew
    have hVw:=L.below.size
    have HVW:=Hd9 (fun Z (hZ : Below V.heap.size V Z) => L.below.trans (hZ.mono hVw))
    have LL:=Hd9 L
    clear L
    obtain ⟨K, hK⟩:=nm9 (V.heap.size)
    have hz0 : K ≤ V.heap.size:=by omega
    have hmd : V.drew.heap.size = K:=hK
    have hc0 : gq + 2 < K:=by omega
    go_cut [9] from 21 to 25 (fun s0 wx => Made1D V Mt Et s0 wx)
    case first =>
     go_region_held3 (fun w' => w'.cell? ⟨gq + 2, 0, none⟩ = some (.bool (ng MP)) ∧ w'.cell? ⟨gq + 2, 1, none⟩ = some (.slice B (zl MP) d) ∧ w'.cell? ⟨gq + 2, 2, none⟩ = some (.int .i64 EP)) (((try dsimp only); refine ⟨?_, ?_, ?_⟩ <;> (repeat (first | (with_reducible exact Q0.out _ D.lq.below) | (with_reducible exact Q0.out _ D0.lq.below) | (with_reducible exact Q1.out _ D.lq.below) | (with_reducible exact Q1.out _ D0.lq.below) | (with_reducible exact Q2.out _ D.lq.below) | (with_reducible exact Q2.out _ D0.lq.below) | (with_reducible refine c_alloc _ ?_) | (with_reducible refine c_drew ?_) | (with_reducible refine c_set ?_ (by assumption) ?_) | omega)))) (first | (go_at_call 92; (with_reducible refine (G2.out _ ?_).mono ?_); (· (first | (with_reducible exact HVW.out _ D.lq.below) | (with_reducible exact HVW.out _ (D.boxD false none 0 0 0).lq.below) | (with_reducible exact HVW.out _ (D0.boxD false none 0 0 0).drew.lq.below))); rintro e9 wh ⟨vh, rfl, id, be⟩; obtain ⟨A7, c7, rfl, _, in9⟩:=id.form; (first | (replace D:=D.step be) | (replace D:=(D.boxMD hmd false none 0 0 0).step be) | (replace D:=(D.boxD false none 0 0 0).step be)); have hz:=be.size; (try simp at hz); replace D:=D.n in9; (try (obtain ⟨x00,x01,x02⟩:=D.lq.b0.a3; obtain ⟨y00,y01,y02⟩:=D.lq.b0.f3)); (try obtain ⟨na, nb, nc, nd, nl⟩:=D.n0)) | (go_at_call 146; (with_reducible refine (G3.out _ _ _ ?_ ?_ ?_).mono ?_); (· (first | (with_reducible refine isD_n (D.getN ?_); (repeat (first | (with_reducible exact mS) | apply mT))) | (with_reducible refine isD_n ((D.boxD false none 0 0 0).getN ?_); (repeat (first | (with_reducible exact mS) | apply mT))) | (with_reducible refine isD_n ((D0.boxD false none 0 0 0).drew.getN ?_); (repeat (first | (with_reducible exact mS) | apply mT))))); (· (first | (with_reducible refine isD_n (D.getN ?_); (repeat (first | (with_reducible exact mS) | apply mT))) | (with_reducible refine isD_n ((D.boxD false none 0 0 0).getN ?_); (repeat (first | (with_reducible exact mS) | apply mT))) | (with_reducible refine isD_n ((D0.boxD false none 0 0 0).drew.getN ?_); (repeat (first | (with_reducible exact mS) | apply mT))))); (· (first | (with_reducible exact HVW.out _ D.lq.below) | (with_reducible exact HVW.out _ (D.boxD false none 0 0 0).lq.below) | (with_reducible exact HVW.out _ (D0.boxD false none 0 0 0).drew.lq.below))); rintro e9 wh ⟨vh, rfl, id, be⟩; obtain ⟨A8, c8, rfl, _, in9⟩:=id.form; (first | (replace D:=D.step be) | (replace D:=(D.boxMD hmd false none 0 0 0).step be) | (replace D:=(D.boxD false none 0 0 0).step be)); have hz:=be.size; (try simp at hz); replace D:=D.n in9; (try (obtain ⟨x00,x01,x02⟩:=D.lq.b0.a3; obtain ⟨y00,y01,y02⟩:=D.lq.b0.f3)); (try obtain ⟨na, nb, nc, nd, nl⟩:=D.n0)))
     all_goals
      go_wp2_with fail
      go_meet
      first
      | ((with_reducible refine made1d_a D ?_) <;> (repeat (first | (with_reducible exact mS) | apply mT)))
      | ((with_reducible refine made1d_b D ?_) <;> (repeat (first | (with_reducible exact mS) | apply mT)))
    case rest =>
     obtain ⟨gn, A9, c9, rfl, hg9, bw, hb9, q1⟩:=hcut
     have L:=((LL.out.step bw).n q1).b hb9
     have hl_gn:=hg9
     clear D D0 hmd LL hb9 q1 bw hg9 HVW Q0 Q1 Q2 hc0
     generalize wc = wd41 at *
     obtain ⟨cel00,cel01,cel02⟩:=L.b0.a3
     obtain ⟨cel20,cel21,cel22⟩:=L.tl.tl.b0.a3
     (try go_wp2_with fail)
     refine (G6.out _ _ _ (isD_n (m:=MT) (e:=ET) (s:=.slice C (zl MT) d2) (L.getN (by simp))) (isD_n (m:=Mt) (e:=Et) (s:=.slice A9 (zl Mt) c9) (L.getN (by simp))) L.below).mono ?_
     rintro e w43 ⟨v9, rfl, iz, be⟩
     clear cel00 cel01 cel02 cel20 cel21 cel22
     obtain ⟨C5, d5, rfl, _, in9⟩:=iz.form
     replace L:=(L.step be).n in9
     clear be iz in9
     have L9:=L.subx (ns':=[(.slice B (zl MP) d, MP.natAbs), (.slice C5 (zl MT2) d5, MT2.natAbs), (.slice A1 (zl MQ) c1, MQ.natAbs)]) (bs':=[(gq + 1, 26, #[.bool (ng MT), .slice C (zl MT) d2, .int .i64 ET]), (gq + 2, 26, #[.bool (ng MP), .slice B (zl MP) d, .int .i64 EP]), (gq, 26, #[.bool (ng MQ), .slice A1 (zl MQ) c1, .int .i64 EQ]), (w.heap.size + 1, 26, #[.bool false, .slice none 0 0, .int .i64 0])]) (by simp) (by simp)
     clear L
     have L:=L9
     clear L9
     obtain ⟨cel00,cel01,cel02⟩:=L.b0.a3
     obtain ⟨f00,f01,f02⟩:=L.b0.f3
     have P:=L.putD (by omega) (by first | (simp; done) | (simp; omega)) (ng MT2) C5 (zl MT2) d5 ET2
     obtain ⟨p10,p11,p12⟩:=P.tl.b0.a3
     obtain ⟨p20,p21,p22⟩:=P.tl.tl.b0.a3
     unfold put3 at p10 p11 p12 p20 p21 p22 P
     go_wp2_with fail
     replace L:=P
     clear P p10 p11 p12 p20 p21 p22
     clear cel00 f00 cel01 f01 cel02 f02
     refine (G7.out _ _ _ (isD_n (m:=MP) (e:=EP) (s:=.slice B (zl MP) d) (L.getN (by simp))) (isD_n (m:=MQ) (e:=EQ) (s:=.slice A1 (zl MQ) c1) (L.getN (by simp))) L.below).mono ?_
     rintro e w44 ⟨v9, rfl, iz, be⟩
     obtain ⟨B5, d6, rfl, _, in9⟩:=iz.form
     replace L:=(L.step be).n in9
     clear be iz in9
     replace L:=L.swap
     obtain ⟨cel00,cel01,cel02⟩:=L.b0.a3
     obtain ⟨f00,f01,f02⟩:=L.b0.f3
     replace L:=L.putD (by omega) (by first | (simp; done) | (simp; omega)) (ng MP2) B5 (zl MP2) d6 EP2
     unfold put3 at L
     go_wp2_with fail
     go_roundw
     case rel => exact ⟨j + 1, MP2, EP2, MT2, ET2, B5, C5, d6, d5, by go_num, L.subx (by simp) (by simp), HJ2⟩
     case measure =>
      obtain ⟨hj60, hN⟩:=HM.out
      simp [intOf]
      omega

theorem nx_shl {s : Int} {p j k : Nat} (h : AbP s j) (hj : j ≤ 2000) (hk : k ≤ 100) (hp : p ≤ 2000) : mkR (mkM s (-(p : Int))) (mkE s (-(p : Int)) + (k : Int)) = 0 ∧ mkM (mkM s (-(p : Int))) (mkE s (-(p : Int)) + (k : Int)) = mkM (s * 2 ^ k) (-(p : Int)) ∧ mkE (mkM s (-(p : Int))) (mkE s (-(p : Int)) + (k : Int)) = mkE (s * 2 ^ k) (-(p : Int)):=by
 obtain ⟨a1, a2, a3, a4, a5⟩:=nx (x := -(p : Int)) h (by omega) (by omega)
 have hr : mkR (mkM s (-(p : Int))) (mkE s (-(p : Int)) + (k : Int)) = 0:=mk_fits9 (by omega) (by omega) (by omega)
 have hs : AbP (s * 2 ^ k) (j + k):=AbP.mul h (by unfold AbP; rw [Int.natAbs_pow]; exact Nat.le_refl _)
 obtain ⟨b1, _⟩:=nx (x := -(p : Int)) hs (by omega) (by omega)
 refine ⟨hr, mk_uniq hr b1 ?_⟩
 have e1:=dq_mul (mkM s (-(p : Int))) (mkE s (-(p : Int))) 1 (k : Int)
 rw [Int.mul_one, a5] at e1
 have e2 : dq (s * 2 ^ k) (-(p : Int)) = dq s (-(p : Int)) * dq 1 (k : Int):=by
  have:=dq_mul s (-(p : Int)) 1 (k : Int)
  rw [Int.mul_one] at this
  rw [← this]
  refine dq_eq (F := -(p : Int)) ?_ (by omega) (by omega)
  rw [show (-(p : Int) - -(p : Int)).toNat = 0 by omega, show (-(p : Int) + (k : Int) - -(p : Int)).toNat = k by omega]
  simp
 rw [e1, e2]
structure AnJ (p : Nat) (C0 : Int) (j : Nat) (C MC EC : Int) : Prop where
 hv : HvI p C0 j C
 k : j ≤ 11
 ab : AbP C (p + 30)
 m : mkM C (-(p : Int)) = MC
 e : mkE C (-(p : Int)) = EC
def RetAg (w : World) (p : Nat) (C0 : Int) (en : Ending) (w' : World) : Prop:=∃ Z, AgI p C0 Z ∧ AbP Z (p + 20) ∧ RetD8 w (mkM Z (-(p : Int))) (mkE Z (-(p : Int))) en w'
theorem ten_dq (p : Nat) : dq (1024 * 2 ^ p) (-(p : Int)) = dq 1 10:=by
 rw [dq_scale, Rat.intCast_mul, Rat.mul_assoc, two_cast, Rat.mul_one]
 decide +kernel
theorem last_x {p : Nat} {C : Int} (hC : 1024 * 2 ^ p ≤ C) : ∃ X, cutQ (1 / dq C (-(p : Int))) (p : Int) = X ∧ SmX X (X * X / 2 ^ p) p ∧ dq X (-(p : Int)) * dq C (-(p : Int)) ≤ 1 ∧ 1 ≤ (dq X (-(p : Int)) + dq 1 (-(p : Int))) * dq C (-(p : Int)) ∧ AbP X p:=by
 have hc : 1024 ≤ dq C (-(p : Int)):=by
  have:=(dq_le_iff _ _ (-(p : Int))).2 hC
  rw [ten_dq] at this
  exact this
 obtain ⟨_, b2, _, b4, b5, b6⟩:=rec_bd (x:=dq C (-(p : Int))) (p:=p) (b:=0) (k:=p) (by grind) rfl
 refine ⟨_, rfl, ⟨b6, ?_, rfl⟩, b4, b5, b2⟩
 refine (dq_le_iff _ _ (-(p : Int))).1 ?_
 generalize cutQ (1 / dq C (-(p : Int))) (p : Int) = X at *
 have x0 : 0 ≤ dq X (-(p : Int)):=by have:=(dq_le_iff 0 X (-(p : Int))).2 b6; rwa [dq_zero] at this
 have m:=Rat.mul_le_mul_of_nonneg_left hc x0
 have e : dq (X * 1024) (-(p : Int)) = dq X (-(p : Int)) * 1024:=by
  rw [dq_scale, dq_scale X, Rat.intCast_mul]
  have : ((1024 : Int) : Rat) = 1024:=rfl
  rw [this]
  grind
 rw [e, dq_scale (2 ^ p), two_cast]
 grind
theorem hv_ab {p : Nat} {C S : Int} (h0 : 0 ≤ C) (hC : C < 1024 * 2 ^ p) (hS : SqI C S p) : AbP (C + S) (p + 30):=by
 obtain ⟨b1, b2, b3⟩:=hS.big h0
 have s0:=hS.nn
 have e : (2 : Nat) ^ (p + 30) = 2 ^ p * 1073741824:=by rw [Nat.pow_add]
 have ep : ((2 ^ p : Nat) : Int) = 2 ^ p:=by push_cast; rfl
 have pp : 0 < (2 : Nat) ^ p:=Nat.pow_pos (by omega)
 unfold AbP
 rw [e]
 generalize (2 : Nat) ^ p = P at *
 rw [← ep] at b2 b3 hC
 omega

theorem tangle_any (C0 : Int) (p : Nat) (vx : Value) (w : World) (hx : IsD w vx (mkM C0 (-(p : Int))) (mkE C0 (-(p : Int)))) (h0 : 0 ≤ C0) (hC : AbP C0 (p + 30)) (hp : p ≤ 700) (hT : Tab w) :
  Calls Tryz.prog 91 #[vx, .int .i64 (p : Int)] w (RetAg w p C0):=by
 obtain ⟨A, c, rfl, _, hn⟩:=hx.form
 have L0:=(Lq.mk0 w).n hn
 have HT:=Hd9 (fun W (hW : Below w.heap.size w W) => hT.mono hW)
 have HP:=Hd9 hp
 have HJ0:=Hd9 (show AnJ p C0 0 C0 (mkM C0 (-(p : Int))) (mkE C0 (-(p : Int))) from ⟨HvI.first h0, by omega, hC, rfl, rfl⟩)
 have hpm : permB (-10) = true:=by decide
 obtain ⟨y1, y2, y3⟩:=g_yes hpm 1
 have g1:=fun W (hW : Below w.heap.size w W) => gunit_any (-10) W (by omega) (by omega) (hT.mono hW)
 rw [y1, y2, y3, show -(-10 : Int) = 10 from rfl] at g1
 have l1 : AbP 1 0:=by unfold AbP; decide
 obtain ⟨u1, u2, u3, u4, u5⟩:=nx (x:=10) l1 (by omega) (by omega)
 rw [u1] at g1
 obtain ⟨M0, hM0⟩:=nm9 (mkM C0 (-(p : Int)))
 obtain ⟨E0, hE0⟩:=nm9 (mkE C0 (-(p : Int)))
 rw [hM0] at L0 HJ0 ⊢
 rw [hE0] at HJ0 ⊢
 obtain ⟨ML, hML⟩:=nm9 (mkM 1 10)
 obtain ⟨EL, hEL⟩:=nm9 (mkE 1 10)
 rw [hML] at g1 u2 u5
 rw [hEL] at g1 u3 u5
 have HL:=Hd9 (And.intro u2 (And.intro u3 u5))
 have G1:=Hd9 g1
 clear g1 y1 y2 y3 hpm l1 u1 u2 u3 u4 u5 hM0 hE0 hML hEL h0 hC hp hT hx hn
 go_enter Tryz.func91, Tryz.ntmps91
 have L:=((L0.varD (w.heap.size) (by simp) (ng M0) A (zl M0) c E0).varD (w.heap.size + 1) (by simp) false none 0 0 0)
 obtain ⟨c10,c11,c12⟩:=L.tl.b0.a3
 (try go_wp2_with fail)
 refine (G1.out _ L.below).mono ?_
 rintro e w1 ⟨v9, rfl, iz, be⟩
 clear c10 c11 c12
 obtain ⟨A1, c1, rfl, _, in9⟩:=iz.form
 replace L:=(L.step be).n in9
 clear be iz in9
 have hl9:=L.b0.lt
 replace L:=L.varD w1.heap.size rfl (ng ML) A1 (zl ML) c1 EL
 obtain ⟨c00,c01,c02⟩:=L.b0.a3
 (try go_wp2_with fail)
 clear c00 c01 c02
 obtain ⟨gl, hgl⟩:=nm9 (w1.heap.size)
 rw [hgl] at L hl9 ⊢
 clear hgl
 have hl_gl:=hl9
 clear hl9
 clear G1
 have hgl : w.heap.size + 1 < gl:=by omega
 go_loopw [7] (fun i wr => ∃ (j : Nat) (C MC EC : Int) (B : Option Addr) (d : Nat), i = .int .i64 (j : Int) ∧ Lq w wr [(.slice B (zl MC) d, MC.natAbs), (.slice A1 (zl ML) c1, ML.natAbs)] [] [] [(w.heap.size, 26, #[.bool (ng MC), .slice B (zl MC) d, .int .i64 EC]), (gl, 26, #[.bool (ng ML), .slice A1 (zl ML) c1, .int .i64 EL]), (w.heap.size + 1, 26, #[.bool false, .slice none 0 0, .int .i64 0])] ∧ Hid (AnJ p C0 j C MC EC)) (fun i _ => (20 - intOf i).toNat)
 case atStart => exact ⟨0, C0, M0, E0, A, c, by go_num, L.subx (by simp) (by simp), HJ0⟩
 case round =>
  clear L HJ0
  obtain ⟨j, C, MC, EC, B, d, rfl, L, HJ⟩:=hrel
  have hJ:=HJ.out
  have hp:=HP.out
  have hjk:=hJ.k
  obtain ⟨t1, t2, t3, t4, t5⟩:=nx (x := -(p : Int)) hJ.ab (by omega) (by omega)
  rw [hJ.m] at t2 t4 t5
  rw [hJ.e] at t3 t4 t5
  obtain ⟨l2, l3, l5⟩:=HL.out
  have g2:=fun v u W h k => dcmp_any MC EC ML EL v u W h k (by omega) (by omega) (by omega) (by omega)
  obtain ⟨sg, hsg⟩:=nm9 (dcm MC EC ML EL)
  have hc:=dcm_lt MC EC ML EL
  rw [show cmpI (MC * 2 ^ (EC - min EC EL).toNat) (ML * 2 ^ (EL - min EC EL).toNat) = dcm MC EC ML EL from rfl, hsg] at g2
  rw [hsg, t5, l5, ← ten_dq p, ← Rat.not_le, dq_le_iff, Int.not_le] at hc
  have G2:=Hd9 g2
  have hl0:=L.b0.lt
  clear g2 hsg l2 l3 l5
  by_cases hz0 : sg < 0
  ·have hlt:=hc.1 hz0
   have hj10:=hJ.hv.le hlt
   obtain ⟨S, hS⟩:=nm9 (sqR (dq C (-(p : Int)) * dq C (-(p : Int)) + 1) (p : Int))
   have hSI:=sqi C p
   rw [hS] at hSI
   have g3:=fun v W h (hW : Below w.heap.size w W) => thalf_any C S p v W h hJ.hv.nn hJ.ab hS (by omega) (HT.out W hW)
   rw [hJ.m, hJ.e] at g3
   have HJ2:=Hd9 (show AnJ p C0 (j + 1) (C + S) (mkM (C + S) (-(p : Int))) (mkE (C + S) (-(p : Int))) from ⟨hJ.hv.step hSI, by omega, hv_ab hJ.hv.nn hlt hSI, rfl, rfl⟩)
   obtain ⟨M2, hM2⟩:=nm9 (mkM (C + S) (-(p : Int)))
   obtain ⟨E2, hE2⟩:=nm9 (mkE (C + S) (-(p : Int)))
   rw [hM2, hE2] at g3 HJ2
   have G3:=Hd9 g3
   have w1 : IntKind.i64.wrap ((j : Int) + 1) = (j : Int) + 1:=by rw [IntKind.wrap_i64]; omega
   have d1 : decide (sg < 0) = true:=decide_eq_true hz0
   clear g3 hM2 hE2 hS hSI hlt hc t1 t2 t3 t4 t5 hJ hp
   obtain ⟨cel00,cel01,cel02⟩:=L.b0.a3
   obtain ⟨cel10,cel11,cel12⟩:=L.tl.b0.a3
   (try go_wp2_with fail)
   refine (G2.out _ _ _ (isD_n (m:=MC) (e:=EC) (s:=.slice B (zl MC) d) (L.getN (by simp))) (isD_n (m:=ML) (e:=EL) (s:=.slice A1 (zl ML) c1) (L.getN (by simp)))).mono ?_
   rintro e w41 ⟨rfl, be⟩
   clear cel00 cel01 cel02 cel10 cel11 cel12
   replace L:=L.step be
   clear be
   obtain ⟨cel00,cel01,cel02⟩:=L.b0.a3
   (try go_wp2_with fail)
   refine (G3.out _ _ (isD_n (m:=MC) (e:=EC) (s:=.slice B (zl MC) d) (L.getN (by simp))) L.below).mono ?_
   rintro e w42 ⟨v9, rfl, iz, be⟩
   clear cel00 cel01 cel02
   obtain ⟨B5, d5, rfl, _, in9⟩:=iz.form
   replace L:=(L.step be).n in9
   clear be iz in9
   obtain ⟨cel00,cel01,cel02⟩:=L.b0.a3
   obtain ⟨f00,f01,f02⟩:=L.b0.f3
   have P:=L.putD (by omega) (by first | (simp; done) | (simp; omega)) (ng M2) B5 (zl M2) d5 E2
   unfold put3 at  P
   go_wp2_with fail
   replace L:=P
   clear P 
   clear cel00 f00 cel01 f01 cel02 f02
   go_roundw
   case rel => exact ⟨j + 1, C + S, M2, E2, B5, d5, by go_num, L.subx (by simp) (by simp), HJ2⟩
   case measure => simp [intOf]; omega
  ·have hge : 1024 * 2 ^ p ≤ C:=by
    refine Int.not_lt.1 fun h => hz0 (hc.2 h)
   obtain ⟨X, hX, hSX, x1, x2, aX⟩:=last_x hge
   have d1 : decide (sg < 0) = false:=decide_eq_false hz0
   have l1 : AbP 1 0:=by unfold AbP; decide
   obtain ⟨u1, u2, u3, u4, u5⟩:=nx (x:=0) l1 (by omega) (by omega)
   have one : dq 1 0 = 1:=by decide +kernel
   have g3:=fun W (hW : Below w.heap.size w W) => dof_any 1 W (by omega) (by omega) (HT.out W hW)
   have hc9 : 1024 ≤ dq C (-(p : Int)):=by
    have:=(dq_le_iff _ _ (-(p : Int))).2 hge
    rw [ten_dq] at this
    exact this
   have g4:=fun x y W h i (hW : Below w.heap.size w W) => tquot_any (mkM 1 0) (mkE 1 0) MC EC X p x y W h i u4 t4 (by omega) (by omega) (by omega) (by omega) (by rw [u5, one]; decide) (by rw [u5, one]; exact Rat.le_refl) (by rw [t5]; grind) (by rw [u5, one, t5]; exact hX) (by omega) (HT.out W hW)
   have g5:=fun x W h (hW : Below w.heap.size w W) => tser_any X (X * X / 2 ^ p) p x W h hSX (by omega) (HT.out W hW)
   have HE:=Hd9 (fun n (hn : pwA (X * X / 2 ^ p) X p n = 0) (h6 : n ≤ 60) => ang_end hJ.hv hJ.k hge hSX x1 x2 hn (by omega))
   have HS:=Hd9 (And.intro hSX (And.intro hp hjk))
   obtain ⟨XM, hXM⟩:=nm9 (mkM X (-(p : Int)))
   obtain ⟨XE, hXE⟩:=nm9 (mkE X (-(p : Int)))
   rw [hXM, hXE] at g4 g5
   obtain ⟨M1, hM1⟩:=nm9 (mkM 1 0)
   obtain ⟨E1, hE1⟩:=nm9 (mkE 1 0)
   rw [hM1, hE1] at g3 g4
   have G3:=Hd9 g3
   have G4:=Hd9 g4
   have G5:=Hd9 g5
   clear g3 g4 g5 hXM hXE hM1 hE1 hX hSX x1 x2 aX l1 u1 u2 u3 u4 u5 one hc9 hge hc t1 t2 t3 t4 t5 hJ hp
   obtain ⟨cel00,cel01,cel02⟩:=L.b0.a3
   obtain ⟨cel10,cel11,cel12⟩:=L.tl.b0.a3
   (try go_wp2_with fail)
   refine (G2.out _ _ _ (isD_n (m:=MC) (e:=EC) (s:=.slice B (zl MC) d) (L.getN (by simp))) (isD_n (m:=ML) (e:=EL) (s:=.slice A1 (zl ML) c1) (L.getN (by simp)))).mono ?_
   rintro e w41 ⟨rfl, be⟩
   clear cel00 cel01 cel02 cel10 cel11 cel12
   replace L:=L.step be
   clear be
   (try go_wp2_with fail)
   obtain ⟨V, hV, L9⟩:=L.name
   rw [hV]
   clear hV L
   have L:=L9
   clear L9
   have Q0:=Hd9 (fun Z (hZ : Below V.heap.size V Z) => (L.b0.mono hZ).c30)
   have Q1:=Hd9 (fun Z (hZ : Below V.heap.size V Z) => (L.b0.mono hZ).c31)
   have Q2:=Hd9 (fun Z (hZ : Below V.heap.size V Z) => (L.b0.mono hZ).c32)
   have hb0:=L.b0.lt
   have D0 : Dq V V [(.slice B (zl MC) d, (MC : Int).natAbs)] [] [] []:=⟨((Lq.mk0 V).n (L.getN (v:=.slice B (zl MC) d) (x:=(MC : Int).natAbs) (by simp))), List.nodup_nil, fun p hp => by cases hp⟩
   have D:=D0.drew
   have hVw:=L.below.size
   have HVW:=Hd9 (fun Z (hZ : Below V.heap.size V Z) => L.below.trans (hZ.mono hVw))
   have LL:=Hd9 L
   clear L
   obtain ⟨K, hK⟩:=nm9 (V.heap.size)
   have hz0 : K ≤ V.heap.size:=by omega
   have hmd : V.drew.heap.size = K:=hK
   have hc0 : w.heap.size < K:=by omega
   go_cut [8] from 24 to 27 (fun s0 wx => Made1D V XM XE s0 wx)
   case first =>
    go_region_held3 (fun w' => w'.cell? ⟨w.heap.size, 0, none⟩ = some (.bool (ng MC)) ∧ w'.cell? ⟨w.heap.size, 1, none⟩ = some (.slice B (zl MC) d) ∧ w'.cell? ⟨w.heap.size, 2, none⟩ = some (.int .i64 EC)) (((try dsimp only); refine ⟨?_, ?_, ?_⟩ <;> (repeat (first | (with_reducible exact Q0.out _ D.lq.below) | (with_reducible exact Q0.out _ D0.lq.below) | (with_reducible exact Q1.out _ D.lq.below) | (with_reducible exact Q1.out _ D0.lq.below) | (with_reducible exact Q2.out _ D.lq.below) | (with_reducible exact Q2.out _ D0.lq.below) | (with_reducible refine c_alloc _ ?_) | (with_reducible refine c_drew ?_) | (with_reducible refine c_set ?_ (by assumption) ?_) | omega)))) (first | (go_at_call 92; (with_reducible refine (G3.out _ ?_).mono ?_); (· (first | (with_reducible exact HVW.out _ D.lq.below) | (with_reducible exact HVW.out _ (D.boxD false none 0 0 0).lq.below) | (with_reducible exact HVW.out _ (D0.boxD false none 0 0 0).drew.lq.below))); rintro e9 wh ⟨vh, rfl, id, be⟩; obtain ⟨A7, c7, rfl, _, in9⟩:=id.form; (first | (replace D:=D.step be) | (replace D:=(D.boxMD hmd false none 0 0 0).step be) | (replace D:=(D.boxD false none 0 0 0).step be)); have hz:=be.size; (try simp at hz); replace D:=D.n in9; (try (obtain ⟨x00,x01,x02⟩:=D.lq.b0.a3; obtain ⟨y00,y01,y02⟩:=D.lq.b0.f3)); (try obtain ⟨na, nb, nc, nd, nl⟩:=D.n0)) | (go_at_call 146; (with_reducible refine (G4.out _ _ _ ?_ ?_ ?_).mono ?_); (· (first | (with_reducible refine isD_n (D.getN ?_); (repeat (first | (with_reducible exact mS) | apply mT))) | (with_reducible refine isD_n ((D.boxD false none 0 0 0).getN ?_); (repeat (first | (with_reducible exact mS) | apply mT))) | (with_reducible refine isD_n ((D0.boxD false none 0 0 0).drew.getN ?_); (repeat (first | (with_reducible exact mS) | apply mT))))); (· (first | (with_reducible refine isD_n (D.getN ?_); (repeat (first | (with_reducible exact mS) | apply mT))) | (with_reducible refine isD_n ((D.boxD false none 0 0 0).getN ?_); (repeat (first | (with_reducible exact mS) | apply mT))) | (with_reducible refine isD_n ((D0.boxD false none 0 0 0).drew.getN ?_); (repeat (first | (with_reducible exact mS) | apply mT))))); (· (first | (with_reducible exact HVW.out _ D.lq.below) | (with_reducible exact HVW.out _ (D.boxD false none 0 0 0).lq.below) | (with_reducible exact HVW.out _ (D0.boxD false none 0 0 0).drew.lq.below))); rintro e9 wh ⟨vh, rfl, id, be⟩; obtain ⟨A8, c8, rfl, _, in9⟩:=id.form; (first | (replace D:=D.step be) | (replace D:=(D.boxMD hmd false none 0 0 0).step be) | (replace D:=(D.boxD false none 0 0 0).step be)); have hz:=be.size; (try simp at hz); replace D:=D.n in9; (try (obtain ⟨x00,x01,x02⟩:=D.lq.b0.a3; obtain ⟨y00,y01,y02⟩:=D.lq.b0.f3)); (try obtain ⟨na, nb, nc, nd, nl⟩:=D.n0)))
    all_goals
     go_wp2_with fail
     go_meet
     first
     | ((with_reducible refine made1d_a D ?_) <;> (repeat (first | (with_reducible exact mS) | apply mT)))
     | ((with_reducible refine made1d_b D ?_) <;> (repeat (first | (with_reducible exact mS) | apply mT)))
   case rest =>
    obtain ⟨gx, A9, c9, rfl, hg9, bw, hb9, q1⟩:=hcut
    have L:=((LL.out.step bw).n q1).b hb9
    have hl_gx:=hg9
    clear D D0 hmd LL hb9 q1 bw hg9 HVW Q0 Q1 Q2 hc0
    generalize wc = wd41 at *
    obtain ⟨cel00,cel01,cel02⟩:=L.b0.a3
    (try go_wp2_with fail)
    refine (G5.out _ _ (isD_n (m:=XM) (e:=XE) (s:=.slice A9 (zl XM) c9) (L.getN (by simp))) L.below).mono ?_
    rintro e w43 ⟨n, hn6, hn0, v9, rfl, iz, be⟩
    clear cel00 cel01 cel02
    obtain ⟨A5, c5, rfl, _, in9⟩:=iz.form
    replace L:=(L.step be).n in9
    clear be iz in9
    obtain ⟨hSX, hp, hjk⟩:=HS.out
    have aS:=sm_ab hSX (n:=n) (by omega)
    obtain ⟨t1, t2, t3, t4, t5⟩:=nx (x := -(p : Int)) aS (by omega) (by omega)
    obtain ⟨v1, v2, v3⟩:=nx_shl (k:=j) aS (by omega) (by omega) (show p ≤ 2000 by omega)
    have g6:=fun x W h (hW : Below w.heap.size w W) => dshift_any (mkM (smA (X * X / 2 ^ p) X p n) (-(p : Int))) (mkE (smA (X * X / 2 ^ p) X p n) (-(p : Int))) (j : Int) x W h (by omega) (by omega) (by omega) (HT.out W hW)
    rw [v1, v2, v3] at g6
    have aZ : AbP (smA (X * X / 2 ^ p) X p n * 2 ^ j) (p + 20):=by
     have:=AbP.mul aS (show AbP ((2 : Int) ^ j) j by unfold AbP; rw [Int.natAbs_pow]; exact Nat.le_refl _)
     exact this.up (by omega)
    have HR:=Hd9 (And.intro (HE.out n hn0 hn6) aZ)
    generalize smA (X * X / 2 ^ p) X p n * 2 ^ j = Z at *
    clear v1 v2 v3 t1 t2 t3 t4 t5 aS aZ hn0 hn6 hSX hp HE HS
    obtain ⟨MS, hMS⟩:=nm9 (mkM (smA (X * X / 2 ^ p) X p n) (-(p : Int)))
    rw [hMS] at g6 L ⊢
    clear hMS
    obtain ⟨ES, hES⟩:=nm9 (mkE (smA (X * X / 2 ^ p) X p n) (-(p : Int)))
    rw [hES] at g6 ⊢
    clear hES
    obtain ⟨MZ, hMZ⟩:=nm9 (mkM Z (-(p : Int)))
    obtain ⟨EZ, hEZ⟩:=nm9 (mkE Z (-(p : Int)))
    rw [hMZ, hEZ] at g6
    have HZ:=Hd9 (And.intro hMZ hEZ)
    have G6:=Hd9 g6
    clear g6 hMZ hEZ
    (try go_wp2_with fail)
    refine (G6.out _ _ (isD_n (m:=MS) (e:=ES) (s:=.slice A5 (zl MS) c5) (L.getN (by simp))) L.below).mono ?_
    rintro e w44 ⟨v9, rfl, iz, be⟩
    obtain ⟨A6, c6, rfl, _, in9⟩:=iz.form
    replace L:=(L.step be).n in9
    clear be iz in9
    have hl9:=L.b0.lt
    have L9:=L.subx (ns':=[(.slice A6 (zl MZ) c6, MZ.natAbs)]) (bs':=[(w.heap.size + 1, 26, #[.bool false, .slice none 0 0, .int .i64 0])]) (by simp) (by simp)
    clear L
    have L:=L9
    clear L9
    have n9 : w.heap.size + 1 ≠ w44.heap.size:=by omega
    obtain ⟨cel00,cel01,cel02⟩:=L.b0.a3
    obtain ⟨f00,f01,f02⟩:=L.b0.f3
    have LN:=L.varD w44.heap.size rfl (ng MZ) A6 (zl MZ) c6 EZ
    obtain ⟨v0,v1,v2⟩:=LN.b0.a3
    obtain ⟨v3,v4,v5⟩:=LN.tl.b0.a3
    obtain ⟨v6,v7,v8⟩:=LN.tl.b0.f3
    go_wp2_with fail
    clear cel00 f00 cel01 f01 cel02 f02
    clear v0 v1 v2 v3 v4 v5 v6 v7 v8
    clear L
    have L:=LN.swap
    clear LN
    obtain ⟨hMZ, hEZ⟩:=HZ.out
    obtain ⟨hr1, hr2⟩:=HR.out
    have LP:=L.putD (by omega) (by first | (simp; done) | (simp; omega)) (ng MZ) A6 (zl MZ) c6 (EZ)
    obtain ⟨k0,k1,k2⟩:=LP.b0.a3
    unfold put3 at k0 k1 k2
    exact bodyPost_ret (v:=.agg #[.bool (ng MZ), .slice A6 (zl MZ) c6, .int .i64 (EZ)]) (by simp [results, Tryz.results91, go_sem, k0, k1, k2]) rfl ⟨Z, hr1, hr2, _, rfl, by rw [hMZ, hEZ]; exact isD_n (LP.getN (by simp)), LP.below⟩
def RetAt (w : World) (p : Nat) (x : Rat) (en : Ending) (w' : World) : Prop:=∃ Z, AtB p Z x ∧ AbP Z (p + 20) ∧ RetD8 w (mkM Z (-(p : Int))) (mkE Z (-(p : Int))) en w'
theorem dv_neg9 {m e : Int} (h : Dv m e) : Dv (-m) e:=by
 rcases h with ⟨h1, h2⟩ | ⟨h1, h2⟩
 ·exact Or.inl ⟨by omega, h2⟩
 ·refine Or.inr ⟨by omega, ?_⟩
  unfold fits8 at *
  rwa [Int.natAbs_neg]
theorem nx_neg9 {Z x : Int} {j : Nat} (h : AbP Z j) (hj : j ≤ 3000) (hx : -6000 ≤ x ∧ x ≤ 100) : mkM (-Z) x = -(mkM Z x) ∧ mkE (-Z) x = mkE Z x:=by
 obtain ⟨a1, _, _, a4, a5⟩:=nx (x:=x) h (by omega) (by omega)
 obtain ⟨b1, _, _, b4, b5⟩:=nx (x:=x) h.neg (by omega) (by omega)
 exact dv_uniq b4 (dv_neg9 a4) (by rw [b5, dq_neg, dq_neg, a5])
theorem small_x {x : Rat} (p : Nat) (h0 : 0 ≤ x) (h1 : x ≤ 1 / 1024) : SmX (cutQ x (p : Int)) (cutQ x (p : Int) * cutQ x (p : Int) / 2 ^ p) p ∧ dq (cutQ x (p : Int)) (-(p : Int)) ≤ x ∧ x ≤ dq (cutQ x (p : Int)) (-(p : Int)) + dq 1 (-(p : Int)):=by
 have c1:=cut_lo x (p : Int)
 have c2:=cut_hi x (p : Int)
 have n:=(quo_bd (p:=p) h0 (by grind)).2.2
 refine ⟨⟨n, ?_, rfl⟩, c1, Rat.le_of_lt c2⟩
 refine (dq_le_iff _ _ (-(p : Int))).1 ?_
 have e : dq (cutQ x (p : Int) * 1024) (-(p : Int)) = dq (cutQ x (p : Int)) (-(p : Int)) * 1024:=by
  rw [dq_scale, dq_scale (cutQ x (p : Int)), Rat.intCast_mul]
  have : ((1024 : Int) : Rat) = 1024:=rfl
  rw [this]
  grind
 rw [e, dq_scale (2 ^ p), two_cast]
 grind
theorem inv_cut {x : Rat} (p : Nat) (h0 : 0 < x) (h1 : 1 ≤ x * 1024) : 0 ≤ cutQ (1 / x) (p : Int) ∧ AbP (cutQ (1 / x) (p : Int)) (p + 10) ∧ dq (cutQ (1 / x) (p : Int)) (-(p : Int)) ≤ x⁻¹ ∧ x⁻¹ ≤ dq (cutQ (1 / x) (p : Int)) (-(p : Int)) + dq 1 (-(p : Int)):=by
 have e : 1 / x = x⁻¹:=by rw [Rat.div_def, Rat.one_mul]
 have i:=Rat.inv_mul_cancel x (Rat.ne_of_gt h0)
 have i0:=Rat.inv_pos.2 h0
 have i1 : x⁻¹ ≤ 1024:=le_of_mul h0 (by rw [i]; grind)
 obtain ⟨a, _, b⟩:=quo_bd (p:=p) (Rat.le_of_lt i0) i1
 rw [e]
 exact ⟨b, a, cut_lo _ _, Rat.le_of_lt (cut_hi _ _)⟩

theorem ttan_pos (m e : Int) (p : Nat) (vx : Value) (w : World) (hx : IsD w vx m e) (hv : Dv m e) (h0 : 0 ≤ m) (lm : zl m ≤ 100) (he : -4000 ≤ e ∧ e ≤ 4000) (hp : p ≤ 700) (hT : Tab w) :
  Calls Tryz.prog 78 #[vx, .int .i64 (p : Int)] w (RetAt w p (dq m e)):=by
 obtain ⟨A, c, rfl, _, hn⟩:=hx.form
 have L0:=(Lq.mk0 w).n hn
 have HT:=Hd9 (fun W (hW : Below w.heap.size w W) => hT.mono hW)
 have gs:=fun v W h => dsign_any m e v W h (by omega)
 obtain ⟨sg, hsg⟩:=nm9 (cmpI m 0)
 have hs0 : ¬ sg < 0:=by rw [← hsg]; unfold cmpI; (repeat' split) <;> omega
 rw [hsg] at gs
 have hpm : permB 10 = true:=by decide
 obtain ⟨y1, y2, y3⟩:=g_yes hpm 1
 have g1:=fun W (hW : Below w.heap.size w W) => gunit_any 10 W (by omega) (by omega) (hT.mono hW)
 rw [y1, y2, y3] at g1
 have l1 : AbP 1 0:=by unfold AbP; decide
 obtain ⟨u1, u2, u3, u4, u5⟩:=nx (x := -10) l1 (by omega) (by omega)
 rw [u1] at g1
 have g2:=fun v u W h k => dcmp_any m e (mkM 1 (-10)) (mkE 1 (-10)) v u W h k (by omega) (by omega) (by omega) (by omega)
 have hc:=dcm_le m e (mkM 1 (-10)) (mkE 1 (-10))
 rw [u5, show dq 1 (-10) = 1 / 1024 by decide +kernel] at hc
 obtain ⟨sc, hsc⟩:=nm9 (dcm m e (mkM 1 (-10)) (mkE 1 (-10)))
 rw [show cmpI (m * 2 ^ (e - min e (mkE 1 (-10))).toNat) (mkM 1 (-10) * 2 ^ (mkE 1 (-10) - min e (mkE 1 (-10))).toNat) = dcm m e (mkM 1 (-10)) (mkE 1 (-10)) from rfl, hsc] at g2
 rw [hsc] at hc
 have hq0 : 0 ≤ dq m e:=by have:=(dq_le_iff 0 m e).2 h0; rwa [dq_zero] at this
 obtain ⟨ML, hML⟩:=nm9 (mkM 1 (-10))
 obtain ⟨EL, hEL⟩:=nm9 (mkE 1 (-10))
 rw [hML, hEL] at g1 g2
 have GS:=Hd9 gs
 have G1:=Hd9 g1
 have G2:=Hd9 g2
 clear gs g1 g2 hsg y1 y2 y3 hpm l1 u1 u2 u3 u4 u5 hML hEL hsc hT hx hn
 by_cases hc0 : sc ≤ 0
 ·have hle:=hc.1 hc0
  have d1 : decide (sc ≤ 0) = true:=decide_eq_true hc0
  obtain ⟨hX, x1, x2⟩:=small_x p hq0 hle
  obtain ⟨X, hXe⟩:=nm9 (cutQ (dq m e) (p : Int))
  rw [hXe] at hX x1 x2
  have aX:=unit_ab hX.nn hX.lt
  obtain ⟨n1, n2, n3, n4, n5⟩:=nx (x := -(p : Int)) aX (by omega) (by omega)
  obtain ⟨y1, y2, y3⟩:=g_yes (permN (p:=p) (by omega)) X
  have g3:=fun x W h (hW : Below w.heap.size w W) => gfloor_any m e (p : Int) x W h (by omega) (by omega) (by omega) (by omega) (HT.out W hW)
  rw [hXe, y1, y2, y3, n1] at g3
  have g4:=fun x W h (hW : Below w.heap.size w W) => tser_any X (X * X / 2 ^ p) p x W h hX (by omega) (HT.out W hW)
  have HE:=Hd9 (fun n (hn : pwA (X * X / 2 ^ p) X p n = 0) (h6 : n ≤ 60) => And.intro (small_at hX hn (by omega) hq0 hle x1 x2) ((sm_ab hX (n:=n) (by omega)).up (show p ≤ p + 20 by omega)))
  obtain ⟨XM, hXM⟩:=nm9 (mkM X (-(p : Int)))
  obtain ⟨XE, hXE⟩:=nm9 (mkE X (-(p : Int)))
  rw [hXM, hXE] at g3 g4
  have G3:=Hd9 g3
  have G4:=Hd9 g4
  clear g3 g4 hXM hXE n1 n2 n3 n4 n5 y1 y2 y3 aX hX x1 x2 hXe hle hc hq0 lm he hp hv h0
  go_enter Tryz.func78, Tryz.ntmps78
  have L:=((L0.varD (w.heap.size) (by simp) (ng m) A (zl m) c e).varD (w.heap.size + 1) (by simp) false none 0 0 0)
  obtain ⟨c10,c11,c12⟩:=L.tl.b0.a3
  (try go_wp2_with fail)
  refine (GS.out _ _ (isD_n (m:=m) (e:=e) (s:=.slice A (zl m) c) (L.getN (by simp)))).mono ?_
  rintro e w1 ⟨rfl, be⟩
  clear c10 c11 c12
  replace L:=L.step be
  clear be
  (try go_wp2_with fail)
  refine (G1.out _ L.below).mono ?_
  rintro e w2 ⟨v9, rfl, iz, be⟩
  obtain ⟨A1, c1, rfl, _, in9⟩:=iz.form
  replace L:=(L.step be).n in9
  clear be iz in9
  have hl9:=L.b0.lt
  replace L:=L.varD w2.heap.size rfl (ng ML) A1 (zl ML) c1 EL
  obtain ⟨c00,c01,c02⟩:=L.b0.a3
  obtain ⟨c20,c21,c22⟩:=L.tl.tl.b0.a3
  (try go_wp2_with fail)
  clear c00 c01 c02 c20 c21 c22
  obtain ⟨gl, hgl⟩:=nm9 (w2.heap.size)
  rw [hgl] at L hl9 ⊢
  clear hgl
  have hl_gl:=hl9
  clear hl9
  refine (G2.out _ _ _ (isD_n (m:=m) (e:=e) (s:=.slice A (zl m) c) (L.getN (by simp))) (isD_n (m:=ML) (e:=EL) (s:=.slice A1 (zl ML) c1) (L.getN (by simp)))).mono ?_
  rintro e w3 ⟨rfl, be⟩
  replace L:=L.step be
  clear be
  obtain ⟨c20,c21,c22⟩:=L.tl.tl.b0.a3
  (try go_wp2_with fail)
  refine (G3.out _ _ (isD_n (m:=m) (e:=e) (s:=.slice A (zl m) c) (L.getN (by simp))) L.below).mono ?_
  rintro e w4 ⟨v9, rfl, iz, be⟩
  clear c20 c21 c22
  obtain ⟨A2, c2, rfl, _, in9⟩:=iz.form
  replace L:=(L.step be).n in9
  clear be iz in9
  have hl9:=L.b0.lt
  replace L:=L.varD w4.heap.size rfl (ng XM) A2 (zl XM) c2 XE
  obtain ⟨c00,c01,c02⟩:=L.b0.a3
  (try go_wp2_with fail)
  clear c00 c01 c02
  obtain ⟨gx, hgx⟩:=nm9 (w4.heap.size)
  rw [hgx] at L hl9 ⊢
  clear hgx
  have hl_gx:=hl9
  clear hl9
  refine (G4.out _ _ (isD_n (m:=XM) (e:=XE) (s:=.slice A2 (zl XM) c2) (L.getN (by simp))) L.below).mono ?_
  rintro e w5 ⟨n, hn6, hn0, v9, rfl, iz, be⟩
  obtain ⟨A5, c5, rfl, _, in9⟩:=iz.form
  replace L:=(L.step be).n in9
  clear be iz in9
  obtain ⟨hr1, hr2⟩:=HE.out n hn0 hn6
  generalize smA (X * X / 2 ^ p) X p n = Z at *
  have L9:=L.subx (ns':=[(.slice A5 (zl (mkM Z (-(p : Int)))) c5, (mkM Z (-(p : Int))).natAbs)]) (bs':=[(w.heap.size + 1, 26, #[.bool false, .slice none 0 0, .int .i64 0])]) (by simp) (by simp)
  clear L
  have L:=L9
  clear L9
  obtain ⟨c00,c01,c02⟩:=L.b0.a3
  obtain ⟨f00,f01,f02⟩:=L.b0.f3
  (try go_wp2_with fail)
  clear c00 f00 c01 f01 c02 f02
  have LP:=L.putD (by omega) (by first | (simp; done) | (simp; omega)) (ng (mkM Z (-(p : Int)))) A5 (zl (mkM Z (-(p : Int)))) c5 (mkE Z (-(p : Int)))
  obtain ⟨k0,k1,k2⟩:=LP.b0.a3
  unfold put3 at k0 k1 k2
  exact bodyPost_ret (v:=.agg #[.bool (ng (mkM Z (-(p : Int)))), .slice A5 (zl (mkM Z (-(p : Int)))) c5, .int .i64 (mkE Z (-(p : Int)))]) (by simp [results, Tryz.results78, go_sem, k0, k1, k2]) rfl ⟨Z, hr1, hr2, _, rfl, isD_n (LP.getN (by simp)), LP.below⟩
 ·have hgt : 1 / 1024 < dq m e:=by
   refine Rat.not_le.1 fun h => hc0 (hc.2 h)
  have d1 : decide (sc ≤ 0) = false:=decide_eq_false hc0
  have h1024 : 1 ≤ dq m e * 1024:=by grind
  have hpos : 0 < dq m e:=by grind
  obtain ⟨i0, i1, i2, i3⟩:=inv_cut p hpos h1024
  obtain ⟨C, hCe⟩:=nm9 (cutQ (1 / dq m e) (p : Int))
  rw [hCe] at i0 i1 i2 i3
  have l1 : AbP 1 0:=by unfold AbP; decide
  obtain ⟨u1, u2, u3, u4, u5⟩:=nx (x:=0) l1 (by omega) (by omega)
  have one : dq 1 0 = 1:=by decide +kernel
  have g3:=fun W (hW : Below w.heap.size w W) => dof_any 1 W (by omega) (by omega) (HT.out W hW)
  have g4:=fun x y W h i (hW : Below w.heap.size w W) => tquot_any (mkM 1 0) (mkE 1 0) m e C p x y W h i u4 hv (by omega) (by omega) (by omega) (by omega) (by rw [u5, one]; decide) (by rw [u5, one]; exact Rat.le_refl) h1024 (by rw [u5, one]; exact hCe) (by omega) (HT.out W hW)
  have g5:=fun x W h (hW : Below w.heap.size w W) => tangle_any C p x W h i0 (i1.up (by omega)) (by omega) (HT.out W hW)
  have HE:=Hd9 (fun Z (h : AgI p C Z) => h.at hpos i2 i3)
  obtain ⟨XM, hXM⟩:=nm9 (mkM C (-(p : Int)))
  obtain ⟨XE, hXE⟩:=nm9 (mkE C (-(p : Int)))
  rw [hXM, hXE] at g4 g5
  obtain ⟨M1, hM1⟩:=nm9 (mkM 1 0)
  obtain ⟨E1, hE1⟩:=nm9 (mkE 1 0)
  rw [hM1, hE1] at g3 g4
  have G3:=Hd9 g3
  have G4:=Hd9 g4
  have G5:=Hd9 g5
  clear g3 g4 g5 hXM hXE hM1 hE1 l1 u1 u2 u3 u4 u5 one i0 i1 i2 i3 hCe h1024 hpos hgt hc hq0 lm he hp hv h0
  go_enter Tryz.func78, Tryz.ntmps78
  have L:=((L0.varD (w.heap.size) (by simp) (ng m) A (zl m) c e).varD (w.heap.size + 1) (by simp) false none 0 0 0)
  obtain ⟨c10,c11,c12⟩:=L.tl.b0.a3
  (try go_wp2_with fail)
  refine (GS.out _ _ (isD_n (m:=m) (e:=e) (s:=.slice A (zl m) c) (L.getN (by simp)))).mono ?_
  rintro e w1 ⟨rfl, be⟩
  clear c10 c11 c12
  replace L:=L.step be
  clear be
  (try go_wp2_with fail)
  refine (G1.out _ L.below).mono ?_
  rintro e w2 ⟨v9, rfl, iz, be⟩
  obtain ⟨A1, c1, rfl, _, in9⟩:=iz.form
  replace L:=(L.step be).n in9
  clear be iz in9
  have hl9:=L.b0.lt
  replace L:=L.varD w2.heap.size rfl (ng ML) A1 (zl ML) c1 EL
  obtain ⟨c00,c01,c02⟩:=L.b0.a3
  obtain ⟨c20,c21,c22⟩:=L.tl.tl.b0.a3
  (try go_wp2_with fail)
  clear c00 c01 c02 c20 c21 c22
  obtain ⟨gl, hgl⟩:=nm9 (w2.heap.size)
  rw [hgl] at L hl9 ⊢
  clear hgl
  have hl_gl:=hl9
  clear hl9
  refine (G2.out _ _ _ (isD_n (m:=m) (e:=e) (s:=.slice A (zl m) c) (L.getN (by simp))) (isD_n (m:=ML) (e:=EL) (s:=.slice A1 (zl ML) c1) (L.getN (by simp)))).mono ?_
  rintro e w3 ⟨rfl, be⟩
  replace L:=L.step be
  clear be
  have L9:=L.subx (ns':=[(.slice A (zl m) c, m.natAbs)]) (bs':=[(w.heap.size + 1, 26, #[.bool false, .slice none 0 0, .int .i64 0]), (w.heap.size, 26, #[.bool (ng m), .slice A (zl m) c, .int .i64 e])]) (by simp) (by simp)
  clear L
  have L:=L9
  clear L9
  replace L:=L.drew
  (try go_wp2_with fail)
  have LD:=L
  clear L
  obtain ⟨c00,c01,c02⟩:=LD.b0.a3
  obtain ⟨f00,f01,f02⟩:=LD.b0.f3
  obtain ⟨c10,c11,c12⟩:=LD.tl.b0.a3
  go_cut [] from 34 to 39 (fun wx => ∃ Z A8 c8, (AgI p C Z ∧ AbP Z (p + 20)) ∧ Lq w wx [(.slice A8 (zl (mkM Z (-(p : Int)))) c8, (mkM Z (-(p : Int))).natAbs)] [] [] [(w.heap.size + 1, 26, #[.bool (ng (mkM Z (-(p : Int)))), .slice A8 (zl (mkM Z (-(p : Int)))) c8, .int .i64 (mkE Z (-(p : Int)))])])
  case first =>
   go_region_with (first | (go_at_call 92; (with_reducible refine (G3.out _ LD.below).mono ?_); rintro e9 wh ⟨vh, rfl, id, be⟩; obtain ⟨A7, c7, rfl, _, in9⟩:=id.form; replace LD:=(LD.step be).n in9; clear be id in9; (try (have r0:=LD.b0.c30; have t0:=LD.b0.fr 0; have s0:=LD.tl.b0.c30; have r1:=LD.b0.c31; have t1:=LD.b0.fr 1; have s1:=LD.tl.b0.c31; have r2:=LD.b0.c32; have t2:=LD.b0.fr 2; have s2:=LD.tl.b0.c32))) | (go_at_call 146; (with_reducible refine (G4.out _ _ _ ?_ ?_ LD.below).mono ?_); (· (refine isD_n (LD.getN ?_) <;> (repeat (first | (with_reducible exact mS) | apply mT)))); (· (refine isD_n (LD.getN ?_) <;> (repeat (first | (with_reducible exact mS) | apply mT)))); rintro e9 wh ⟨vh, rfl, id, be⟩; obtain ⟨A9, c9, rfl, _, in9⟩:=id.form; replace LD:=(LD.step be).n in9; clear be id in9; (try (have r0:=LD.b0.c30; have t0:=LD.b0.fr 0; have s0:=LD.tl.b0.c30; have r1:=LD.b0.c31; have t1:=LD.b0.fr 1; have s1:=LD.tl.b0.c31; have r2:=LD.b0.c32; have t2:=LD.b0.fr 2; have s2:=LD.tl.b0.c32))) | (go_at_call 91; (with_reducible refine (G5.out _ _ ?_ LD.below).mono ?_); (· (refine isD_n (LD.getN ?_) <;> (repeat (first | (with_reducible exact mS) | apply mT)))); rintro e9 wh ⟨Z, hz1, hz2, vh, rfl, id, be⟩; obtain ⟨A8, c8, rfl, _, in9⟩:=id.form; replace LD:=(LD.step be).n in9; clear be id in9; (try (have r0:=LD.b0.c30; have t0:=LD.b0.fr 0; have s0:=LD.tl.b0.c30; have r1:=LD.b0.c31; have t1:=LD.b0.fr 1; have s1:=LD.tl.b0.c31; have r2:=LD.b0.c32; have t2:=LD.b0.fr 2; have s2:=LD.tl.b0.c32))))
   all_goals
    have LP:=LD.putD (by omega) (by first | (simp; done) | (simp; omega)) (ng (mkM Z (-(p : Int)))) A8 (zl (mkM Z (-(p : Int)))) c8 (mkE Z (-(p : Int)))
    unfold put3 at LP
    go_wp2_with fail
    go_meet
    exact ⟨Z, A8, c8, ⟨hz1, hz2⟩, LP.subx (by simp) (by simp)⟩
  case rest =>
   obtain ⟨Z, A8, c8, ⟨hz1, hz2⟩, L⟩:=hcut
   generalize wc = wd0 at *
   clear LD
   obtain ⟨k0,k1,k2⟩:=L.b0.a3
   (try go_wp2_with fail)
   exact bodyPost_ret (v:=.agg #[.bool (ng (mkM Z (-(p : Int)))), .slice A8 (zl (mkM Z (-(p : Int)))) c8, .int .i64 (mkE Z (-(p : Int)))]) (by simp [results, Tryz.results78, go_sem, k0, k1, k2]) rfl ⟨Z, HE.out Z hz1, hz2, _, rfl, isD_n (L.getN (by simp)), L.below⟩
theorem ttan_any (m e : Int) (p : Nat) (vx : Value) (w : World) (hx : IsD w vx m e) (hv : Dv m e) (lm : zl m ≤ 100) (he : -4000 ≤ e ∧ e ≤ 4000) (hp : p ≤ 700) (hT : Tab w) :
  Calls Tryz.prog 78 #[vx, .int .i64 (p : Int)] w (RetAt w p (dq m e)):=by
 by_cases h0 : 0 ≤ m
 ·exact ttan_pos m e p vx w hx hv h0 lm he hp hT
 obtain ⟨A, c, rfl, _, hn⟩:=hx.form
 have L0:=(Lq.mk0 w).n hn
 have zn:=zl_neg m
 have gs:=fun v W h => dsign_any m e v W h (by omega)
 obtain ⟨sg, hsg⟩:=nm9 (cmpI m 0)
 have hs0 : sg < 0:=by rw [← hsg, cmpI_lt (by omega)]; decide
 rw [hsg] at gs
 have g1:=fun v W h => dneg_any m e v W h (by omega)
 have g2:=fun x W h (hW : Below w.heap.size w W) => ttan_pos (-m) e p x W h (dv_neg9 hv) (by omega) (by omega) he hp (hT.mono hW)
 rw [dq_neg] at g2
 have HQ:=Hd9 hp
 have GS:=Hd9 gs
 have G1:=Hd9 g1
 have G2:=Hd9 g2
 have d1 : decide (sg < 0) = true:=decide_eq_true hs0
 obtain ⟨mn, hmn⟩:=nm9 (-m)
 rw [hmn] at G1 G2
 clear gs g1 g2 hsg hT hx hn hv lm he hp zn h0 hmn
 go_enter Tryz.func78, Tryz.ntmps78
 have L:=((L0.varD (w.heap.size) (by simp) (ng m) A (zl m) c e).varD (w.heap.size + 1) (by simp) false none 0 0 0)
 obtain ⟨c10,c11,c12⟩:=L.tl.b0.a3
 (try go_wp2_with fail)
 refine (GS.out _ _ (isD_n (m:=m) (e:=e) (s:=.slice A (zl m) c) (L.getN (by simp)))).mono ?_
 rintro e w1 ⟨rfl, be⟩
 clear c10 c11 c12
 replace L:=L.step be
 clear be
 obtain ⟨c10,c11,c12⟩:=L.tl.b0.a3
 (try go_wp2_with fail)
 refine (G1.out _ _ (isD_n (m:=m) (e:=e) (s:=.slice A (zl m) c) (L.getN (by simp)))).mono ?_
 rintro e w2 ⟨v9, rfl, iz, be⟩
 clear c10 c11 c12
 obtain ⟨A1, c1, rfl, _, in9⟩:=iz.form
 replace L:=(L.step be).n in9
 clear be iz in9
 (try go_wp2_with fail)
 refine (G2.out _ _ (isD_n (m:=mn) (e:=e) (s:=.slice A1 (zl mn) c1) (L.getN (by simp))) L.below).mono ?_
 rintro e w3 ⟨Z, hz1, hz2, v9, rfl, iz, be⟩
 obtain ⟨A5, c5, rfl, _, in9⟩:=iz.form
 replace L:=(L.step be).n in9
 clear be iz in9
 have hp:=HQ.out
 obtain ⟨t1, t2, t3, t4, t5⟩:=nx (x := -(p : Int)) hz2 (by omega) (by omega)
 obtain ⟨v1, v2⟩:=nx_neg9 (x := -(p : Int)) hz2 (by omega) (by omega)
 have g3:=fun v W h => dneg_any (mkM Z (-(p : Int))) (mkE Z (-(p : Int))) v W h (by omega)
 rw [← v1, ← v2] at g3
 have hr1:=hz1.neg
 rw [Rat.neg_neg] at hr1
 have HR:=Hd9 (And.intro hr1 hz2.neg)
 clear t1 t2 t3 t4 t5 hr1 hz1 hz2
 rw [← v2]
 rw [v2] at g3 ⊢
 clear v1
 obtain ⟨MZ, hMZ⟩:=nm9 (mkM Z (-(p : Int)))
 rw [hMZ] at g3 L ⊢
 obtain ⟨EZ, hEZ⟩:=nm9 (mkE Z (-(p : Int)))
 rw [hEZ] at g3 v2 ⊢
 have HV:=Hd9 v2
 clear v2 hMZ hEZ
 have G3:=Hd9 g3
 clear g3
 (try go_wp2_with fail)
 refine (G3.out _ _ (isD_n (m:=MZ) (e:=EZ) (s:=.slice A5 (zl MZ) c5) (L.getN (by simp)))).mono ?_
 rintro e w4 ⟨v9, rfl, iz, be⟩
 obtain ⟨A6, c6, rfl, _, in9⟩:=iz.form
 replace L:=(L.step be).n in9
 clear be iz in9
 have L9:=L.subx (ns':=[(.slice A6 (zl (mkM (-Z) (-(p : Int)))) c6, (mkM (-Z) (-(p : Int))).natAbs)]) (bs':=[(w.heap.size + 1, 26, #[.bool false, .slice none 0 0, .int .i64 0])]) (by simp) (by simp)
 clear L
 have L:=L9
 clear L9
 obtain ⟨c00,c01,c02⟩:=L.b0.a3
 obtain ⟨f00,f01,f02⟩:=L.b0.f3
 (try go_wp2_with fail)
 clear c00 f00 c01 f01 c02 f02
 obtain ⟨hr1, hr2⟩:=HR.out
 have v2:=HV.out
 have LP:=L.putD (by omega) (by first | (simp; done) | (simp; omega)) (ng (mkM (-Z) (-(p : Int)))) A6 (zl (mkM (-Z) (-(p : Int)))) c6 (EZ)
 obtain ⟨k0,k1,k2⟩:=LP.b0.a3
 unfold put3 at k0 k1 k2
 exact bodyPost_ret (v:=.agg #[.bool (ng (mkM (-Z) (-(p : Int)))), .slice A6 (zl (mkM (-Z) (-(p : Int)))) c6, .int .i64 (EZ)]) (by simp [results, Tryz.results78, go_sem, k0, k1, k2]) rfl ⟨-Z, hr1, hr2, _, rfl, by rw [v2]; exact isD_n (LP.getN (by simp)), LP.below⟩

theorem i10out_yes (m e n f p : Int) (vx : Value) (w : World) (hx : IsI w vx m e n f) (lm : zl m ≤ 1000) (ln : zl n ≤ 1000) (he : -20000 ≤ e ∧ e ≤ 20000) (hf : -20000 ≤ f ∧ f ≤ 20000) (hp1 : -9223372036854775808 ≤ p) (hp2 : p ≤ 9223372036854775807) (hp : permB p = true) (r1 : mkR (cutQ (dq m e) p) (-p) = 0) (r2 : mkR (-(cutQ (-(dq n f)) p)) (-p) = 0) (hT : Tab w) :
  Calls Tryz.prog 58 #[vx, .int .i64 p] w (RetIE w (mkM (cutQ (dq m e) p) (-p)) (mkE (cutQ (dq m e) p) (-p)) (mkM (-(cutQ (-(dq n f)) p)) (-p)) (mkE (-(cutQ (-(dq n f)) p)) (-p)) 0):=by
 obtain ⟨A, c, B, d, rfl, hn1, hn2⟩:=hx.form
 have L0:=((Lq.mk0 w).n hn2).n hn1
 have h1:=fun v W h (hW : Below w.heap.size w W) => gfloor_any m e p v W h (by omega) (by omega) hp1 hp2 (hT.mono hW)
 have h2:=fun v W h (hW : Below w.heap.size w W) => gceil_any n f p v W h (by omega) (by omega) hp1 hp2 (hT.mono hW)
 rw [(g_yes hp (cutQ (dq m e) p)).1, (g_yes hp (cutQ (dq m e) p)).2.1, (g_yes hp (cutQ (dq m e) p)).2.2] at h1
 rw [(g_yes hp (-(cutQ (-(dq n f)) p))).1, (g_yes hp (-(cutQ (-(dq n f)) p))).2.1, (g_yes hp (-(cutQ (-(dq n f)) p))).2.2] at h2
 rw [r1] at h1
 rw [r2] at h2
 generalize mkM (cutQ (dq m e) p) (-p) = M at *
 generalize mkE (cutQ (dq m e) p) (-p) = E at *
 generalize mkM (-(cutQ (-(dq n f)) p)) (-p) = N at *
 generalize mkE (-(cutQ (-(dq n f)) p)) (-p) = G at *
 have H1:=Hd9 h1
 have H2:=Hd9 h2
 clear h1 h2 hx hn1 hn2 lm ln he hf hp1 hp2 hp hT r1 r2
 go_enter Tryz.func58, Tryz.ntmps58
 go_wp2_with fail
 have L:=((L0.varI (w.heap.size) (by simp) (ng m) A (zl m) c e (ng n) B (zl n) d f).varI (w.heap.size + 1) (by simp) false none 0 0 0 false none 0 0 0)
 obtain ⟨c00,c01,c02,c03,c04,c05⟩:=L.b0.a6
 obtain ⟨f00,f01,f02,f03,f04,f05⟩:=L.b0.f6
 obtain ⟨c10,c11,c12,c13,c14,c15⟩:=L.tl.b0.a6
 (try go_wp2_with fail)
 refine (H1.out _ _ (isD_n (m:=m) (e:=e) (s:=.slice A (zl m) c) (L.getN (v:=.slice A (zl m) c) (x:=(m).natAbs) (by simp))) L.below).mono ?_
 rintro e w1 ⟨vv, rfl, id, be⟩
 clear c00 f00 c01 f01 c02 f02 c03 f03 c04 f04 c05 f05 c10 c11 c12 c13 c14 c15
 obtain ⟨A8, c8, rfl, _, in9⟩:=id.form
 replace L:=(L.step be).n in9
 clear be id in9
 have hlg:=L.b0.lt
 replace L:=L.varD w1.heap.size rfl (ng M) A8 (zl M) c8 E
 obtain ⟨c00,c01,c02⟩:=L.b0.a3
 obtain ⟨c20,c21,c22,c23,c24,c25⟩:=L.tl.tl.b0.a6
 go_wp2_with fail
 obtain ⟨g, hg⟩:=nm9 (w1.heap.size)
 rw [hg] at L hlg c00 c01 c02 ⊢
 clear hg
 refine (H2.out _ _ (isD_n (m:=n) (e:=f) (s:=.slice B (zl n) d) (L.getN (v:=.slice B (zl n) d) (x:=(n).natAbs) (by simp))) L.below).mono ?_
 rintro e w2 ⟨vv, rfl, id, be⟩
 clear c00 c01 c02 c20 c21 c22 c23 c24 c25
 obtain ⟨A9, c9, rfl, _, in9⟩:=id.form
 replace L:=(L.step be).n in9
 clear be id in9
 have hlk9:=L.b0.lt
 replace L:=L.varD w2.heap.size rfl (ng N) A9 (zl N) c9 G
 have n1 : w.heap.size + 1 ≠ g:=by omega
 have n2 : w.heap.size + 1 ≠ w2.heap.size:=by omega
 replace L:=L.pull2
 obtain ⟨c00,c01,c02,c03,c04,c05⟩:=L.b0.a6
 obtain ⟨f00,f01,f02,f03,f04,f05⟩:=L.b0.f6
 obtain ⟨c10,c11,c12⟩:=L.tl.b0.a3
 obtain ⟨c20,c21,c22⟩:=L.tl.tl.b0.a3
 go_wp2_with fail
 have LP:=L.putI (by omega) (by simp [n1, n2, Ne.symm n1, Ne.symm n2]) (ng M) A8 (zl M) c8 E (ng N) A9 (zl N) c9 G
 obtain ⟨k0,k1,k2,k3,k4,k5⟩:=LP.b0.a6
 unfold put6 at k0 k1 k2 k3 k4 k5
 exact bodyPost_ret (v:=.tuple #[.agg #[.bool (ng M), .slice A8 (zl M) c8, .int .i64 E, .bool (ng N), .slice A9 (zl N) c9, .int .i64 G], .int .i64 0]) (by simp [results, Tryz.results58, go_sem, k0, k1, k2, k3, k4, k5]) rfl ⟨_, rfl, isI_n (LP.getN (by simp)) (LP.getN (by simp)), LP.below⟩

theorem atLo_cut {S : Int} {k p : Nat} (hp : p = k + 32) : cutQ (dq (S - 2097152) (-(p : Int))) (k : Int) = atLo S:=cutD_down 32 (by omega)
theorem atHi_cut {S : Int} {k p : Nat} (hp : p = k + 32) : -(cutQ (-(dq (S + 2097152) (-(p : Int)))) (k : Int)) = atHi S:=by
 rw [← dq_neg, cutD_down 32 (by omega)]
 rfl
theorem at_margin {p q : Nat} (h : q + 21 = p) (hp : p ≤ 3000) : mkM 1 (-(q : Int)) = mkM 2097152 (-(p : Int)) ∧ mkE 1 (-(q : Int)) = mkE 2097152 (-(p : Int)) ∧ mkR 1 (-(q : Int)) = 0:=by
 obtain ⟨a1, _⟩:=nx (T:=1) (x := -(q : Int)) (j:=0) (by unfold AbP; decide) (by omega) (by omega)
 obtain ⟨b1, _⟩:=nx (T:=2097152) (x := -(p : Int)) (j:=21) (by unfold AbP; decide) (by omega) (by omega)
 have:=mk_uniq a1 b1 (by
  refine dq_eq (F := -(p : Int)) ?_ (by omega) (by omega)
  rw [show (-(q : Int) - -(p : Int)).toNat = 21 by omega, show (-(p : Int) - -(p : Int)).toNat = 0 by omega]
  decide)
 exact ⟨this.1, this.2, a1⟩
theorem at_size {Z : Int} {k p : Nat} (hp : p = k + 32) (h : AbP Z (p + 20)) : AbP (atLo Z) (k + 21) ∧ AbP (atHi Z) (k + 21):=by
 have e1 : (2 : Nat) ^ (p + 20) = 2 ^ k * 4503599627370496:=by rw [hp, show k + 32 + 20 = k + 52 by omega, Nat.pow_add]
 have e2 : (2 : Nat) ^ (k + 21) = 2 ^ k * 2097152:=by rw [Nat.pow_add]
 have pp : 0 < (2 : Nat) ^ k:=Nat.pow_pos (by omega)
 have e3 : (2 : Int) ^ 32 = 4294967296:=rfl
 unfold AbP atLo atHi at *
 rw [e1] at h
 rw [e2, e3]
 generalize (2 : Nat) ^ k = P at *
 constructor <;> omega
theorem at_tight (Z : Int) : atLo Z ≤ atHi Z ∧ atHi Z ≤ atLo Z + 2:=by
 have e3 : (2 : Int) ^ 32 = 4294967296:=rfl
 unfold atLo atHi
 rw [e3]
 constructor <;> omega
theorem okA_yes {k : Nat} (h : k ≤ 4096) : okA (k : Int) = true:=by
 unfold okA
 rw [decide_eq_true (show (0 : Int) ≤ (k : Int) by omega), decide_eq_true (show (k : Int) ≤ 4096 by omega)]
 rfl
def RetTn (w : World) (k : Nat) (m e n f : Int) (en : Ending) (w' : World) : Prop:=∃ a b : Int, (EaA k a (dq m e) ∧ EaB k b (dq n f) ∧ AbP a (k + 21) ∧ AbP b (k + 21)) ∧ RetIE w (mkM a (-(k : Int))) (mkE a (-(k : Int))) (mkM b (-(k : Int))) (mkE b (-(k : Int))) 0 en w'
theorem taround_any (Z1 Z2 : Int) (k p : Nat) (vx vy : Value) (w : World) (hx : IsD w vx (mkM Z1 (-(p : Int))) (mkE Z1 (-(p : Int)))) (hy : IsD w vy (mkM Z2 (-(p : Int))) (mkE Z2 (-(p : Int)))) (h1 : AbP Z1 (p + 20)) (h2 : AbP Z2 (p + 20)) (hp : p = k + 32) (hk : k ≤ 600) (hT : Tab w) :
  Calls Tryz.prog 79 #[vx, vy, .int .i64 (k : Int)] w (RetIE w (mkM (atLo Z1) (-(k : Int))) (mkE (atLo Z1) (-(k : Int))) (mkM (atHi Z2) (-(k : Int))) (mkE (atHi Z2) (-(k : Int))) 0):=by
 obtain ⟨A, c, rfl, _, hn⟩:=hx.form
 obtain ⟨B, d, rfl, _, hn2⟩:=hy.form
 have L0:=((Lq.mk0 w).n hn2).n hn
 obtain ⟨q, hq⟩:=nm9 (k + 11)
 obtain ⟨u1, u2, u3⟩:=at_margin (p:=p) (q:=q) (by omega) (by omega)
 obtain ⟨y1, y2, y3⟩:=g_yes (permN (p:=q) (by omega)) 1
 have g8:=fun W (hW : Below w.heap.size w W) => gunit_any (q : Int) W (by omega) (by omega) (hT.mono hW)
 rw [y1, y2, y3, u1, u2, u3] at g8
 have w1 : IntKind.i64.wrap ((k : Int) + 32) = (p : Int):=by rw [IntKind.wrap_i64]; omega
 have w2 : IntKind.i64.wrap ((p : Int) - 21) = (q : Int):=by rw [IntKind.wrap_i64]; omega
 have a15 : AbP 2097152 (p + 20):=AbP.up (j:=21) (by unfold AbP; decide) (by omega)
 have hpy : -6000 ≤ -(p : Int) ∧ -(p : Int) ≤ 100:=by omega
 have hpc : -4500 ≤ -(p : Int) ∧ -(p : Int) ≤ 0:=by omega
 obtain ⟨r1, r2, r3, _, _⟩:=nxc 10000 h1 (by omega) hpc (by omega) (by omega)
 obtain ⟨s1, s2, s3, _, _⟩:=nxc 10000 h2 (by omega) hpc (by omega) (by omega)
 obtain ⟨t1, t2, t3, _, _⟩:=nxc 10000 a15 (by omega) hpc (by omega) (by omega)
 obtain ⟨b1, b2, b3⟩:=nx_sub h1 a15 (by omega) hpy
 have g9:=fun x y W h i (hW : Below w.heap.size w W) => dsub_any (mkM Z1 (-(p : Int))) (mkE Z1 (-(p : Int))) (mkM 2097152 (-(p : Int))) (mkE 2097152 (-(p : Int))) x y W h i (by omega) (by omega) (by omega) (by omega) (hT.mono hW)
 rw [b1, b2, b3] at g9
 have al : AbP (Z1 - 2097152) (p + 21):=by rw [Int.sub_eq_add_neg]; exact h1.add a15.neg
 obtain ⟨l1, l2, l3, l4, l5⟩:=nxc 10000 al (by omega) hpc (by omega) (by omega)
 obtain ⟨c1', c2', c3'⟩:=nx_add h2 a15 (by omega) hpy
 have g10:=fun x y W h i (hW : Below w.heap.size w W) => dadd_any (mkM Z2 (-(p : Int))) (mkE Z2 (-(p : Int))) (mkM 2097152 (-(p : Int))) (mkE 2097152 (-(p : Int))) x y W h i (by omega) (by omega) (by omega) (by omega) (hT.mono hW)
 rw [c1', c2', c3'] at g10
 have ah : AbP (Z2 + 2097152) (p + 21):=h2.add a15
 obtain ⟨k1, k2, k3, k4, k5⟩:=nxc 10000 ah (by omega) hpc (by omega) (by omega)
 obtain ⟨la, _⟩:=at_size hp h1
 obtain ⟨_, lb⟩:=at_size hp h2
 obtain ⟨ra, _⟩:=nx (x := -(k : Int)) la (by omega) (by omega)
 obtain ⟨rb, _⟩:=nx (x := -(k : Int)) lb (by omega) (by omega)
 have ca:=atLo_cut (S:=Z1) hp
 have cb:=atHi_cut (S:=Z2) hp
 have g11:=fun x W h (hW : Below w.heap.size w W) => i10out_yes (mkM (Z1 - 2097152) (-(p : Int))) (mkE (Z1 - 2097152) (-(p : Int))) (mkM (Z2 + 2097152) (-(p : Int))) (mkE (Z2 + 2097152) (-(p : Int))) (k : Int) x W h (by omega) (by omega) (by omega) (by omega) (by omega) (by omega) (permN (by omega)) (by rw [l5, ca]; exact ra) (by rw [k5, cb]; exact rb) (hT.mono hW)
 rw [l5, k5, ca, cb] at g11
 clear ca cb ra rb la lb l1 l2 l3 l4 l5 k1 k2 k3 k4 k5 al ah b1 b2 b3 c1' c2' c3' r1 r2 r3 s1 s2 s3 t1 t2 t3 a15 hpy hpc u1 u2 u3 y1 y2 y3 h1 h2 hp hk hT hx hy hn hn2 hq
 generalize mkM (Z1 - 2097152) (-(p : Int)) = Mo at *
 generalize mkE (Z1 - 2097152) (-(p : Int)) = Eo at *
 generalize mkM (Z2 + 2097152) (-(p : Int)) = Mi at *
 generalize mkE (Z2 + 2097152) (-(p : Int)) = Ei at *
 generalize mkM (atLo Z1) (-(k : Int)) = Ma at *
 generalize mkE (atLo Z1) (-(k : Int)) = Ea at *
 generalize mkM (atHi Z2) (-(k : Int)) = Nb at *
 generalize mkE (atHi Z2) (-(k : Int)) = Fb at *
 generalize mkM Z1 (-(p : Int)) = M1 at *
 generalize mkE Z1 (-(p : Int)) = E1 at *
 generalize mkM Z2 (-(p : Int)) = M2 at *
 generalize mkE Z2 (-(p : Int)) = E2 at *
 generalize mkM 2097152 (-(p : Int)) = Mu at *
 generalize mkE 2097152 (-(p : Int)) = Eu at *
 have G8:=Hd9 g8
 have G9:=Hd9 g9
 have G10:=Hd9 g10
 have G11:=Hd9 g11
 clear g8 g9 g10 g11
 go_enter Tryz.func79, Tryz.ntmps79
 have L:=(((L0.varD (w.heap.size) (by simp) (ng M1) A (zl M1) c E1).varD (w.heap.size + 1) (by simp) (ng M2) B (zl M2) d E2).varI (w.heap.size + 2) (by simp) false none 0 0 0 false none 0 0 0)
 obtain ⟨c20,c21,c22⟩:=L.tl.tl.b0.a3
 (try go_wp2_with fail)
 refine (G8.out _ L.below).mono ?_
 rintro e w1 ⟨v9, rfl, iz, be⟩
 clear c20 c21 c22
 obtain ⟨A4, c4, rfl, _, in9⟩:=iz.form
 replace L:=(L.step be).n in9
 clear be iz in9
 have hl9:=L.b0.lt
 replace L:=L.varD w1.heap.size rfl (ng Mu) A4 (zl Mu) c4 Eu
 obtain ⟨c00,c01,c02⟩:=L.b0.a3
 obtain ⟨c30,c31,c32⟩:=L.tl.tl.tl.b0.a3
 go_wp2_with fail
 clear c00 c01 c02 c30 c31 c32
 obtain ⟨gm, hgm⟩:=nm9 (w1.heap.size)
 rw [hgm] at L hl9 ⊢
 clear hgm
 have hl_gm:=hl9
 clear hl9
 refine (G9.out _ _ _ (isD_n (m:=M1) (e:=E1) (s:=.slice A (zl M1) c) (L.getN (by simp))) (isD_n (m:=Mu) (e:=Eu) (s:=.slice A4 (zl Mu) c4) (L.getN (by simp))) L.below).mono ?_
 rintro e w2 ⟨v9, rfl, iz, be⟩
 obtain ⟨A5, c5, rfl, _, in9⟩:=iz.form
 replace L:=(L.step be).n in9
 clear be iz in9
 have hl9:=L.b0.lt
 replace L:=L.varD w2.heap.size rfl (ng Mo) A5 (zl Mo) c5 Eo
 obtain ⟨c10,c11,c12⟩:=L.tl.b0.a3
 obtain ⟨c30,c31,c32⟩:=L.tl.tl.tl.b0.a3
 go_wp2_with fail
 clear c10 c11 c12 c30 c31 c32
 obtain ⟨gl, hgl⟩:=nm9 (w2.heap.size)
 rw [hgl] at L hl9 ⊢
 clear hgl
 have hl_gl:=hl9
 clear hl9
 refine (G10.out _ _ _ (isD_n (m:=M2) (e:=E2) (s:=.slice B (zl M2) d) (L.getN (by simp))) (isD_n (m:=Mu) (e:=Eu) (s:=.slice A4 (zl Mu) c4) (L.getN (by simp))) L.below).mono ?_
 rintro e w3 ⟨v9, rfl, iz, be⟩
 obtain ⟨A6, c6, rfl, _, in9⟩:=iz.form
 replace L:=(L.step be).n in9
 clear be iz in9
 have hl9:=L.b0.lt
 replace L:=L.varD w3.heap.size rfl (ng Mi) A6 (zl Mi) c6 Ei
 obtain ⟨c00,c01,c02⟩:=L.b0.a3
 obtain ⟨c10,c11,c12⟩:=L.tl.b0.a3
 go_wp2_with fail
 clear c00 c01 c02 c10 c11 c12
 obtain ⟨gh, hgh⟩:=nm9 (w3.heap.size)
 rw [hgh] at L hl9 ⊢
 clear hgh
 have hl_gh:=hl9
 clear hl9
 refine (G11.out _ _ (isI_n (m:=Mo) (e:=Eo) (n:=Mi) (f:=Ei) (s:=.slice A5 (zl Mo) c5) (t:=.slice A6 (zl Mi) c6) (L.getN (by simp)) (L.getN (by simp))) L.below).mono ?_
 rintro e w4 ⟨v2, rfl, ii, be⟩
 obtain ⟨A8, c8, B8, d8, rfl, ia, ib⟩:=ii.form
 replace L:=((L.step be).n ib).n ia
 clear be ii ia ib
 have L9:=L.subx (ns':=[(.slice A8 (zl Ma) c8, Ma.natAbs), (.slice B8 (zl Nb) d8, Nb.natAbs)]) (bs':=[(w.heap.size + 1 + 1, 28, #[.bool false, .slice none 0 0, .int .i64 0, .bool false, .slice none 0 0, .int .i64 0])]) (by simp) (by simp)
 clear L
 have L:=L9
 clear L9
 obtain ⟨c00,c01,c02,c03,c04,c05⟩:=L.b0.a6
 obtain ⟨f00,f01,f02,f03,f04,f05⟩:=L.b0.f6
 go_wp2_with fail
 clear c00 f00 c01 f01 c02 f02 c03 f03 c04 f04 c05 f05
 have LP:=L.putI (by omega) (by first | (simp; done) | (simp; omega)) (ng Ma) A8 (zl Ma) c8 Ea (ng Nb) B8 (zl Nb) d8 Fb
 obtain ⟨k0,k1,k2,k3,k4,k5⟩:=LP.b0.a6
 unfold put6 at k0 k1 k2 k3 k4 k5
 exact bodyPost_ret (v:=.tuple #[.agg #[.bool (ng Ma), .slice A8 (zl Ma) c8, .int .i64 Ea, .bool (ng Nb), .slice B8 (zl Nb) d8, .int .i64 Fb], .int .i64 0]) (by simp [results, Tryz.results79, go_sem, k0, k1, k2, k3, k4, k5]) rfl ⟨_, rfl, isI_n (LP.getN (by simp)) (LP.getN (by simp)), LP.below⟩
theorem tatan_yes (m e n f : Int) (k : Nat) (vx : Value) (w : World) (hx : IsI w vx m e n f) (lm : zl m ≤ 100) (ln : zl n ≤ 100) (he : -4000 ≤ e ∧ e ≤ 4000) (hf : -4000 ≤ f ∧ f ≤ 4000) (hv : Dv m e) (hv2 : Dv n f) (hsm : smallB m e n f = true) (hk : k ≤ 600) (hT : Tab w) :
  Calls Tryz.prog 21 #[vx, .int .i64 (k : Int)] w (RetTn w k m e n f):=by
 obtain ⟨A, c, B, d, rfl, hn1, hn2⟩:=hx.form
 have L0:=((Lq.mk0 w).n hn2).n hn1
 have HT:=Hd9 (fun W (hW : Below w.heap.size w W) => hT.mono hW)
 have HP0:=fun W => tperm_any (k : Int) W
 rw [okA_yes (by omega)] at HP0
 have HP:=Hd9 HP0
 have hmn : dcm m e n f ≤ 0:=by
  unfold smallB at hsm
  rw [Bool.and_eq_true] at hsm
  exact of_decide_eq_true hsm.1
 have g3:=fun x W h => asmall_any m e n f x W h (by omega) (by omega) (by omega) (by omega) hv hv2
 rw [hsm] at g3
 obtain ⟨p, hp⟩:=nm9 (k + 32)
 have w1 : IntKind.i64.wrap ((k : Int) + 32) = (p : Int):=by rw [IntKind.wrap_i64]; omega
 have g5:=fun x W h (hW : Below w.heap.size w W) => ttan_any m e p x W h hv (by omega) (by omega) (by omega) (hT.mono hW)
 have g6:=fun x y W h i => dcmp_any m e n f x y W h i (by omega) (by omega) (by omega) (by omega)
 rw [show cmpI (m * 2 ^ (e - min e f).toNat) (n * 2 ^ (f - min e f).toNat) = dcm m e n f from rfl] at g6
 have g7:=fun x W h (hW : Below w.heap.size w W) => ttan_any n f p x W h hv2 (by omega) (by omega) (by omega) (hT.mono hW)
 have HQ:=Hd9 (And.intro hp hk)
 have hcase : (dcm m e n f < 0) ∨ (m = n ∧ e = f ∧ dcm m e n f = 0):=by
  rcases Int.lt_or_le (dcm m e n f) 0 with q9 | q9
  ·exact Or.inl q9
  ·have q0 : dcm m e n f = 0:=by omega
   obtain ⟨a, b⟩:=(dcm_eq hv hv2).1 q0
   exact Or.inr ⟨a, b, q0⟩
 generalize dcm m e n f = cn at *
 clear hmn hk hv hv2 lm ln he hf hsm hT hx HP0 hp
 have G3:=Hd9 g3
 have G5:=Hd9 g5
 have G6:=Hd9 g6
 have G7:=Hd9 g7
 clear g3 g5 g6 g7
 rcases hcase with hlt | ⟨rfl, rfl, hlt⟩
 ·have d2 : decide (cn < 0) = true:=decide_eq_true hlt
  go_enter Tryz.func21, Tryz.ntmps21
  have L:=((L0.varI (w.heap.size) (by simp) (ng m) A (zl m) c e (ng n) B (zl n) d f).varI (w.heap.size + 1) (by simp) false none 0 0 0 false none 0 0 0)
  obtain ⟨c10,c11,c12,c13,c14,c15⟩:=L.tl.b0.a6
  (try go_wp2_with fail)
  refine (HP.out _).mono ?_
  rintro e9 w' ⟨rfl, rfl⟩
  (try go_wp2_with fail)
  refine (G3.out _ _ (isI_n (m:=m) (e:=e) (n:=n) (f:=f) (s:=.slice A (zl m) c) (t:=.slice B (zl n) d) (L.getN (by simp)) (L.getN (by simp)))).mono ?_
  rintro e w1 ⟨rfl, be⟩
  clear c10 c11 c12 c13 c14 c15
  replace L:=L.step be
  clear be
  obtain ⟨c10,c11,c12,c13,c14,c15⟩:=L.tl.b0.a6
  (try go_wp2_with fail)
  refine (G5.out _ _ (isD_n (m:=m) (e:=e) (s:=.slice A (zl m) c) (L.getN (by simp))) L.below).mono ?_
  rintro e w2 ⟨s1, ok1, hs1, v9, rfl, iz, be⟩
  clear c10 c11 c12 c13 c14 c15
  obtain ⟨A2, c2, rfl, _, in9⟩:=iz.form
  replace L:=(L.step be).n in9
  clear be iz in9
  have hl9:=L.b0.lt
  obtain ⟨M1, hM1⟩:=nm9 (mkM s1 (-(p : Int)))
  obtain ⟨E1, hE1⟩:=nm9 (mkE s1 (-(p : Int)))
  rw [hM1] at L ⊢
  rw [hE1]
  have HW1:=Hd9 (And.intro ok1 (And.intro hs1 (And.intro hM1 hE1)))
  clear ok1 hs1 hM1 hE1
  replace L:=L.varD w2.heap.size rfl (ng M1) A2 (zl M1) c2 E1
  obtain ⟨c00,c01,c02⟩:=L.b0.a3
  replace L:=L.varD (w2.heap.size + 1) (by simp) (ng M1) A2 (zl M1) c2 E1
  obtain ⟨d00,d01,d02,d03,d04,d05⟩:=L.tl.tl.tl.b0.a6
  (try go_wp2_with fail)
  clear c00 c01 c02 d00 d01 d02 d03 d04 d05
  obtain ⟨g1, hg1⟩:=nm9 (w2.heap.size)
  rw [hg1] at L hl9 ⊢
  clear hg1
  have hl_g1:=hl9
  clear hl9
  refine (G6.out _ _ _ (isD_n (m:=m) (e:=e) (s:=.slice A (zl m) c) (L.getN (by simp))) (isD_n (m:=n) (e:=f) (s:=.slice B (zl n) d) (L.getN (by simp)))).mono ?_
  rintro e w3 ⟨rfl, be⟩
  replace L:=L.step be
  clear be
  obtain ⟨c30,c31,c32,c33,c34,c35⟩:=L.tl.tl.tl.b0.a6
  (try go_wp2_with fail)
  refine (G7.out _ _ (isD_n (m:=n) (e:=f) (s:=.slice B (zl n) d) (L.getN (by simp))) L.below).mono ?_
  rintro e w4 ⟨s2, ok2, hs2, v9, rfl, iz, be⟩
  clear c30 c31 c32 c33 c34 c35
  obtain ⟨A3, c3, rfl, _, in9⟩:=iz.form
  replace L:=(L.step be).n in9
  clear be iz in9
  obtain ⟨M2, hM2⟩:=nm9 (mkM s2 (-(p : Int)))
  obtain ⟨E2, hE2⟩:=nm9 (mkE s2 (-(p : Int)))
  rw [hM2] at L ⊢
  rw [hE2]
  have HW2:=Hd9 (And.intro ok2 (And.intro hs2 (And.intro hM2 hE2)))
  clear ok2 hs2 hM2 hE2
  obtain ⟨c00,c01,c02⟩:=L.b0.a3
  obtain ⟨f00,f01,f02⟩:=L.b0.f3
  have P:=L.putD (by omega) (by first | (simp; done) | (simp; omega)) (ng M2) A3 (zl M2) c3 E2
  obtain ⟨p00,p01,p02⟩:=P.b0.a3
  obtain ⟨p10,p11,p12⟩:=P.tl.b0.a3
  unfold put3 at p00 p01 p02 p10 p11 p12 P
  (try go_wp2_with fail)
  replace L:=P
  clear P p00 p01 p02 p10 p11 p12
  clear c00 f00 c01 f01 c02 f02
  obtain ⟨hp, hk⟩:=HQ.out
  obtain ⟨ok1, hs1, hM1, hE1⟩:=HW1.out
  obtain ⟨ok2, hs2, hM2, hE2⟩:=HW2.out
  have g8:=fun x y W h i (hW : Below w.heap.size w W) => taround_any s1 s2 k p x y W h i hs1 hs2 hp.symm hk (HT.out W hW)
  rw [hM1, hE1] at g8
  rw [hM2, hE2] at g8
  obtain ⟨za, _⟩:=at_size hp.symm hs1
  obtain ⟨_, zb⟩:=at_size hp.symm hs2
  have hR1:=atLo_en hp.symm ok1
  have hR2:=atHi_en hp.symm ok2
  have hR3:=at_tight s1
  obtain ⟨a, ha⟩:=nm9 (atLo s1)
  obtain ⟨b, hb⟩:=nm9 (atHi s2)
  
  rw [ha] at g8 za hR1
  rw [hb] at g8 zb hR2
  have HR:=Hd9 (And.intro hR1 (And.intro hR2 (And.intro za (And.intro zb hR3))))
  obtain ⟨Ma, hMa⟩:=nm9 (mkM a (-(k : Int)))
  obtain ⟨Ea, hEa⟩:=nm9 (mkE a (-(k : Int)))
  obtain ⟨Nb, hNb⟩:=nm9 (mkM b (-(k : Int)))
  obtain ⟨Fb, hFb⟩:=nm9 (mkE b (-(k : Int)))
  rw [hMa, hEa, hNb, hFb] at g8
  have HN:=Hd9 (And.intro (And.intro hMa hEa) (And.intro hNb hFb))
  have G8:=Hd9 g8
  clear g8 hMa hEa hNb hFb ha hb hR1 hR2 hR3 za zb ok1 hs1 hM1 hE1 hp hk ok2 hs2 hM2 hE2
  (try go_wp2_with fail)
  refine (G8.out _ _ _ (isD_n (m:=M1) (e:=E1) (s:=.slice A2 (zl M1) c2) (L.getN (by simp))) (isD_n (m:=M2) (e:=E2) (s:=.slice A3 (zl M2) c3) (L.getN (by simp))) L.below).mono ?_
  rintro e w5 ⟨v2, rfl, ii, be⟩
  obtain ⟨A8, c8, B8, d8, rfl, ia, ib⟩:=ii.form
  replace L:=((L.step be).n ib).n ia
  clear be ii ia ib
  have hR:=HR.out
  obtain ⟨⟨hMa, hEa⟩, hNb, hFb⟩:=HN.out
  subst hMa hEa hNb hFb
  have L9:=L.subx (ns':=[(.slice A8 (zl (mkM a (-(k : Int)))) c8, (mkM a (-(k : Int))).natAbs), (.slice B8 (zl (mkM b (-(k : Int)))) d8, (mkM b (-(k : Int))).natAbs)]) (bs':=[(w.heap.size + 1, 28, #[.bool false, .slice none 0 0, .int .i64 0, .bool false, .slice none 0 0, .int .i64 0])]) (by simp) (by simp)
  clear L
  have L:=L9
  clear L9
  obtain ⟨c00,c01,c02,c03,c04,c05⟩:=L.b0.a6
  obtain ⟨f00,f01,f02,f03,f04,f05⟩:=L.b0.f6
  go_wp2_with fail
  clear c00 f00 c01 f01 c02 f02 c03 f03 c04 f04 c05 f05
  have LP:=L.putI (by omega) (by first | (simp; done) | (simp; omega)) (ng (mkM a (-(k : Int)))) A8 (zl (mkM a (-(k : Int)))) c8 (mkE a (-(k : Int))) (ng (mkM b (-(k : Int)))) B8 (zl (mkM b (-(k : Int)))) d8 (mkE b (-(k : Int)))
  obtain ⟨k0,k1,k2,k3,k4,k5⟩:=LP.b0.a6
  unfold put6 at k0 k1 k2 k3 k4 k5
  exact bodyPost_ret (v:=.tuple #[.agg #[.bool (ng (mkM a (-(k : Int)))), .slice A8 (zl (mkM a (-(k : Int)))) c8, .int .i64 (mkE a (-(k : Int))), .bool (ng (mkM b (-(k : Int)))), .slice B8 (zl (mkM b (-(k : Int)))) d8, .int .i64 (mkE b (-(k : Int)))], .int .i64 0]) (by simp [results, Tryz.results21, go_sem, k0, k1, k2, k3, k4, k5]) rfl ⟨a, b, ⟨hR.1, hR.2.1, hR.2.2.1, hR.2.2.2.1⟩, _, rfl, isI_n (LP.getN (by simp)) (LP.getN (by simp)), LP.below⟩
 ·have d2 : decide (cn < 0) = false:=decide_eq_false (by omega)
  go_enter Tryz.func21, Tryz.ntmps21
  have L:=((L0.varI (w.heap.size) (by simp) (ng m) A (zl m) c e (ng m) B (zl m) d e).varI (w.heap.size + 1) (by simp) false none 0 0 0 false none 0 0 0)
  obtain ⟨c10,c11,c12,c13,c14,c15⟩:=L.tl.b0.a6
  (try go_wp2_with fail)
  refine (HP.out _).mono ?_
  rintro e9 w' ⟨rfl, rfl⟩
  (try go_wp2_with fail)
  refine (G3.out _ _ (isI_n (m:=m) (e:=e) (n:=m) (f:=e) (s:=.slice A (zl m) c) (t:=.slice B (zl m) d) (L.getN (by simp)) (L.getN (by simp)))).mono ?_
  rintro e w1 ⟨rfl, be⟩
  clear c10 c11 c12 c13 c14 c15
  replace L:=L.step be
  clear be
  obtain ⟨c10,c11,c12,c13,c14,c15⟩:=L.tl.b0.a6
  (try go_wp2_with fail)
  refine (G5.out _ _ (isD_n (m:=m) (e:=e) (s:=.slice A (zl m) c) (L.getN (by simp))) L.below).mono ?_
  rintro e w2 ⟨s1, ok1, hs1, v9, rfl, iz, be⟩
  clear c10 c11 c12 c13 c14 c15
  obtain ⟨A2, c2, rfl, _, in9⟩:=iz.form
  replace L:=(L.step be).n in9
  clear be iz in9
  have hl9:=L.b0.lt
  obtain ⟨M1, hM1⟩:=nm9 (mkM s1 (-(p : Int)))
  obtain ⟨E1, hE1⟩:=nm9 (mkE s1 (-(p : Int)))
  rw [hM1] at L ⊢
  rw [hE1]
  have HW1:=Hd9 (And.intro ok1 (And.intro hs1 (And.intro hM1 hE1)))
  clear ok1 hs1 hM1 hE1
  replace L:=L.varD w2.heap.size rfl (ng M1) A2 (zl M1) c2 E1
  obtain ⟨c00,c01,c02⟩:=L.b0.a3
  replace L:=L.varD (w2.heap.size + 1) (by simp) (ng M1) A2 (zl M1) c2 E1
  obtain ⟨d00,d01,d02,d03,d04,d05⟩:=L.tl.tl.tl.b0.a6
  (try go_wp2_with fail)
  clear c00 c01 c02 d00 d01 d02 d03 d04 d05
  obtain ⟨g1, hg1⟩:=nm9 (w2.heap.size)
  rw [hg1] at L hl9 ⊢
  clear hg1
  have hl_g1:=hl9
  clear hl9
  refine (G6.out _ _ _ (isD_n (m:=m) (e:=e) (s:=.slice A (zl m) c) (L.getN (by simp))) (isD_n (m:=m) (e:=e) (s:=.slice B (zl m) d) (L.getN (by simp)))).mono ?_
  rintro e w3 ⟨rfl, be⟩
  replace L:=L.step be
  clear be
  obtain ⟨c00,c01,c02⟩:=L.b0.a3
  obtain ⟨c10,c11,c12⟩:=L.tl.b0.a3
  (try go_wp2_with fail)
  clear c00 c01 c02 c10 c11 c12
  obtain ⟨hp, hk⟩:=HQ.out
  obtain ⟨ok1, hs1, hM1, hE1⟩:=HW1.out
  have g8:=fun x y W h i (hW : Below w.heap.size w W) => taround_any s1 s1 k p x y W h i hs1 hs1 hp.symm hk (HT.out W hW)
  rw [hM1, hE1] at g8
  obtain ⟨za, _⟩:=at_size hp.symm hs1
  obtain ⟨_, zb⟩:=at_size hp.symm hs1
  have hR1:=atLo_en hp.symm ok1
  have hR2:=atHi_en hp.symm ok1
  have hR3:=at_tight s1
  obtain ⟨a, ha⟩:=nm9 (atLo s1)
  obtain ⟨b, hb⟩:=nm9 (atHi s1)
  rw [ha, hb] at hR3
  rw [ha] at g8 za hR1
  rw [hb] at g8 zb hR2
  have HR:=Hd9 (And.intro hR1 (And.intro hR2 (And.intro za (And.intro zb hR3))))
  obtain ⟨Ma, hMa⟩:=nm9 (mkM a (-(k : Int)))
  obtain ⟨Ea, hEa⟩:=nm9 (mkE a (-(k : Int)))
  obtain ⟨Nb, hNb⟩:=nm9 (mkM b (-(k : Int)))
  obtain ⟨Fb, hFb⟩:=nm9 (mkE b (-(k : Int)))
  rw [hMa, hEa, hNb, hFb] at g8
  have HN:=Hd9 (And.intro (And.intro hMa hEa) (And.intro hNb hFb))
  have G8:=Hd9 g8
  clear g8 hMa hEa hNb hFb ha hb hR1 hR2 hR3 za zb ok1 hs1 hM1 hE1 hp hk
  (try go_wp2_with fail)
  refine (G8.out _ _ _ (isD_n (m:=M1) (e:=E1) (s:=.slice A2 (zl M1) c2) (L.getN (by simp))) (isD_n (m:=M1) (e:=E1) (s:=.slice A2 (zl M1) c2) (L.getN (by simp))) L.below).mono ?_
  rintro e w4 ⟨v2, rfl, ii, be⟩
  obtain ⟨A8, c8, B8, d8, rfl, ia, ib⟩:=ii.form
  replace L:=((L.step be).n ib).n ia
  clear be ii ia ib
  have hR:=HR.out
  obtain ⟨⟨hMa, hEa⟩, hNb, hFb⟩:=HN.out
  subst hMa hEa hNb hFb
  have L9:=L.subx (ns':=[(.slice A8 (zl (mkM a (-(k : Int)))) c8, (mkM a (-(k : Int))).natAbs), (.slice B8 (zl (mkM b (-(k : Int)))) d8, (mkM b (-(k : Int))).natAbs)]) (bs':=[(w.heap.size + 1, 28, #[.bool false, .slice none 0 0, .int .i64 0, .bool false, .slice none 0 0, .int .i64 0])]) (by simp) (by simp)
  clear L
  have L:=L9
  clear L9
  obtain ⟨c00,c01,c02,c03,c04,c05⟩:=L.b0.a6
  obtain ⟨f00,f01,f02,f03,f04,f05⟩:=L.b0.f6
  go_wp2_with fail
  clear c00 f00 c01 f01 c02 f02 c03 f03 c04 f04 c05 f05
  have LP:=L.putI (by omega) (by first | (simp; done) | (simp; omega)) (ng (mkM a (-(k : Int)))) A8 (zl (mkM a (-(k : Int)))) c8 (mkE a (-(k : Int))) (ng (mkM b (-(k : Int)))) B8 (zl (mkM b (-(k : Int)))) d8 (mkE b (-(k : Int)))
  obtain ⟨k0,k1,k2,k3,k4,k5⟩:=LP.b0.a6
  unfold put6 at k0 k1 k2 k3 k4 k5
  exact bodyPost_ret (v:=.tuple #[.agg #[.bool (ng (mkM a (-(k : Int)))), .slice A8 (zl (mkM a (-(k : Int)))) c8, .int .i64 (mkE a (-(k : Int))), .bool (ng (mkM b (-(k : Int)))), .slice B8 (zl (mkM b (-(k : Int)))) d8, .int .i64 (mkE b (-(k : Int)))], .int .i64 0]) (by simp [results, Tryz.results21, go_sem, k0, k1, k2, k3, k4, k5]) rfl ⟨a, b, ⟨hR.1, hR.2.1, hR.2.2.1, hR.2.2.2.1⟩, _, rfl, isI_n (LP.getN (by simp)) (LP.getN (by simp)), LP.below⟩
theorem trecip_arg (n k : Int) (w : World) (hk : okA k = false ∨ n < 2 ∨ 1000000 < n) :
  Calls Tryz.prog 30 #[.int .i64 n, .int .i64 k] w (RetIE w 0 0 0 0 1):=by
 have HP0:=fun W => tperm_any k W
 have HP:=Hd9 HP0
 clear HP0
 obtain ⟨b, hb⟩:=nm9 (okA k)
 rw [hb] at HP hk
 clear hb
 by_cases q1 : b = false
 ·subst q1
  go_enter Tryz.func30, Tryz.ntmps30
  have L:=((Lq.mk0 w).varI (w.heap.size) (by simp) false none 0 0 0 false none 0 0 0)
  obtain ⟨c00,c01,c02,c03,c04,c05⟩:=L.b0.a6
  obtain ⟨f00,f01,f02,f03,f04,f05⟩:=L.b0.f6
  (try go_wp2_with fail)
  refine (HP.out _).mono ?_
  rintro e9 w' ⟨rfl, rfl⟩
  (try go_wp2_with fail)
  exact bodyPost_ret (v:=.tuple #[.agg #[.bool false, .slice none 0 0, .int .i64 0, .bool false, .slice none 0 0, .int .i64 0], .int .i64 1]) (by simp [results, Tryz.results30, go_sem, c00, c01, c02, c03, c04, c05]) rfl ⟨_, rfl, isI_zero _, L.below⟩
 ·have hb : b = true:=by cases b <;> simp_all
  subst hb
  have hk2 : n < 2 ∨ 1000000 < n:=hk.resolve_left (by simp)
  by_cases q2 : n < 2
  ·skip
   go_enter Tryz.func30, Tryz.ntmps30
   have L:=((Lq.mk0 w).varI (w.heap.size) (by simp) false none 0 0 0 false none 0 0 0)
   obtain ⟨c00,c01,c02,c03,c04,c05⟩:=L.b0.a6
   obtain ⟨f00,f01,f02,f03,f04,f05⟩:=L.b0.f6
   (try go_wp2_with fail)
   refine (HP.out _).mono ?_
   rintro e9 w' ⟨rfl, rfl⟩
   (try go_wp2_with fail)
   exact bodyPost_ret (v:=.tuple #[.agg #[.bool false, .slice none 0 0, .int .i64 0, .bool false, .slice none 0 0, .int .i64 0], .int .i64 1]) (by simp [results, Tryz.results30, go_sem, c00, c01, c02, c03, c04, c05]) rfl ⟨_, rfl, isI_zero _, L.below⟩
  ·have q3 : 1000000 < n:=by omega
   have q4 : ¬ n < 2:=by omega
   go_enter Tryz.func30, Tryz.ntmps30
   have L:=((Lq.mk0 w).varI (w.heap.size) (by simp) false none 0 0 0 false none 0 0 0)
   obtain ⟨c00,c01,c02,c03,c04,c05⟩:=L.b0.a6
   obtain ⟨f00,f01,f02,f03,f04,f05⟩:=L.b0.f6
   (try go_wp2_with fail)
   refine (HP.out _).mono ?_
   rintro e9 w' ⟨rfl, rfl⟩
   (try go_wp2_with fail)
   exact bodyPost_ret (v:=.tuple #[.agg #[.bool false, .slice none 0 0, .int .i64 0, .bool false, .slice none 0 0, .int .i64 0], .int .i64 1]) (by simp [results, Tryz.results30, go_sem, c00, c01, c02, c03, c04, c05]) rfl ⟨_, rfl, isI_zero _, L.below⟩
def RowZ (w : World) (v : Value) (l : List Int) : Prop:=∃ g c, v = .slice (some ⟨g, 0, none⟩) l.length c ∧ g < w.heap.size ∧ ∀ (j : Nat) (p : Int), l[j]? = some p → ∃ A c, w.cell? ⟨g, 2 * j, none⟩ = some (.bool (ng p)) ∧ w.cell? ⟨g, 2 * j + 1, none⟩ = some (.slice A (zl p) c) ∧ IsZ w (.agg #[.bool (ng p), .slice A (zl p) c]) p
theorem RowZ.mono {w w' : World} {v : Value} {l : List Int} (h : RowZ w v l) (hb : Below w.heap.size w w') : RowZ w' v l:=by
 obtain ⟨g, c, r, hg, h⟩:=h
 refine ⟨g, c, r, Nat.lt_of_lt_of_le hg hb.size, fun j p hp => ?_⟩
 obtain ⟨A, c, h1, h2, h3⟩:=h j p hp
 exact ⟨A, c, (hb.cell (p:=⟨g, 2 * j, none⟩) hg).trans h1, (hb.cell (p:=⟨g, 2 * j + 1, none⟩) hg).trans h2, h3.mono hb⟩
def LoopZ (l : List Int) (t : Nat) (a1 a2 : Int) : Prop:=a1 ∈ l ∧ a2 ∈ l ∧ ∀ (j : Nat) (p : Int), j < t → l[j]? = some p → a1 ≤ p ∧ p ≤ a2
theorem LoopZ.all {l : List Int} {a1 a2 : Int} {n : Nat} (hn : l.length = n) (h : LoopZ l n a1 a2) : (∀ q ∈ l, a1 ≤ q) ∧ ∀ q ∈ l, q ≤ a2:=by
 constructor <;> intro q hq <;> obtain ⟨j, hj, e⟩:=List.getElem_of_mem hq
 ·exact (h.2.2 j q (by omega) (by rw [← e]; exact List.getElem?_eq_getElem hj)).1
 ·exact (h.2.2 j q (by omega) (by rw [← e]; exact List.getElem?_eq_getElem hj)).2
structure ExS (v f t : Nat) (y : Rat) (a b p q : Int) : Prop where
 tf : t + f = v
 tm : SpC a b v (tm t y)
 sm : SpC p q v (esm (t + 1) y)
 aa : AbP a f
 bb : AbP b f
 pp : p.natAbs + 2 ^ f ≤ 2 ^ (v + 1)
 qq : q.natAbs + 2 ^ f ≤ 2 ^ (v + 1)
theorem ExS.first (v : Nat) (y : Rat) : ExS v v 0 y (2 ^ v) (2 ^ v) (2 ^ v) (2 ^ v):=by
 have h:=SpC.of 1 v
 rw [Int.one_mul, show ((1 : Int) : Rat) = 1 from rfl] at h
 have e : ((2 : Int) ^ v).natAbs = 2 ^ v:=by rw [Int.natAbs_pow]; rfl
 have h2 : ((2 : Int) ^ v).natAbs + 2 ^ v ≤ 2 ^ (v + 1):=by rw [e, Nat.pow_succ]; omega
 refine ⟨by omega, h, ?_, Nat.le_of_eq e, Nat.le_of_eq e, h2, h2⟩
 rwa [show esm (0 + 1) y = 1 from by show (0 : Rat) + 1 = 1; grind]
def sqbits (v i : Nat) : Nat:=v + (3 * 2 ^ i - 1)
structure ExD (v i : Nat) (y : Rat) (a b : Int) : Prop where
 rs : RSp a b v ((((2 : Nat) ^ i : Nat) : Rat) * y)
 aa : AbP a (sqbits v i)
 bb : AbP b (sqbits v i)
theorem ExD.first {v : Nat} {y : Rat} {a b : Int} (h : RSp a b v y) (ha : AbP a (sqbits v 0)) (hb : AbP b (sqbits v 0)) : ExD v 0 y a b:=
 ⟨by rwa [show (((2 : Nat) ^ 0 : Nat) : Rat) * y = y from by rw [Nat.pow_zero]; exact Rat.one_mul y], ha, hb⟩
theorem small14 {m e n f : Int} (lm : zl m ≤ 60) (ln : zl n ≤ 60) (he : -8000 ≤ e ∧ e ≤ 3000) (hf : -8000 ≤ f ∧ f ≤ 3000) (hle : dcm m e n f ≤ 0) (tm : topZ m e ≤ 2048) (tn : topZ n f ≤ 2048) : smallB m e n f = true:=by
 have p8 : permB 8192 = true:=by decide
 unfold smallB onB
 rw [p8, decide_eq_true hle, decide_eq_true tm, decide_eq_true tn, decide_eq_true (show -8192 ≤ e by omega), decide_eq_true (show -8192 ≤ f by omega)]
 simp


theorem of16_any (a b : Int) (w : World) (h1 : -1000 ≤ a ∧ a ≤ 1000) (h2 : -1000 ≤ b ∧ b ≤ 1000) :
  Calls Tryz.prog 27 #[.int .i64 a, .int .i64 b] w (RetI6 w (mkM a 0) (mkE a 0) (mkM b 0) (mkE b 0)):=by
 have HA:=Hd9 (fun W => rof8_any a W (by omega) (by omega))
 have HB:=Hd9 (fun W => rof8_any b W (by omega) (by omega))
 generalize mkM a 0 = m at *
 generalize mkE a 0 = e at *
 generalize mkM b 0 = n at *
 generalize mkE b 0 = f at *
 clear h1 h2
 go_enter Tryz.func27, Tryz.ntmps27
 go_wp2_with fail
 have L:=((Lq.mk0 w).varI (w.heap.size) (by simp) false none 0 0 0 false none 0 0 0)
 obtain ⟨c00,c01,c02,c03,c04,c05⟩:=L.b0.a6
 obtain ⟨f00,f01,f02,f03,f04,f05⟩:=L.b0.f6
 (try go_wp2_with fail)
 refine (HA.out _).mono ?_
 rintro e w1 ⟨v1, rfl, id, be⟩
 clear c00 f00 c01 f01 c02 f02 c03 f03 c04 f04 c05 f05
 obtain ⟨A, c, rfl, _, in9⟩:=id.form
 replace L:=(L.step be).n in9
 clear be id in9
 obtain ⟨c00,c01,c02,c03,c04,c05⟩:=L.b0.a6
 obtain ⟨f00,f01,f02,f03,f04,f05⟩:=L.b0.f6
 (try go_wp2_with fail)
 refine (HB.out _).mono ?_
 rintro e w2 ⟨v2, rfl, id, be⟩
 clear c00 f00 c01 f01 c02 f02 c03 f03 c04 f04 c05 f05
 obtain ⟨B, d, rfl, _, in9⟩:=id.form
 replace L:=(L.step be).n in9
 clear be id in9
 obtain ⟨c00,c01,c02,c03,c04,c05⟩:=L.b0.a6
 obtain ⟨f00,f01,f02,f03,f04,f05⟩:=L.b0.f6
 (try go_wp2_with fail)
 have LP:=L.putI (by omega) (by first | (simp; done) | (simp; omega)) (ng m) A (zl m) c e (ng n) B (zl n) d f
 obtain ⟨k0,k1,k2,k3,k4,k5⟩:=LP.b0.a6
 unfold put6 at k0 k1 k2 k3 k4 k5
 exact bodyPost_ret (v:=.agg #[.bool (ng m), .slice A (zl m) c, .int .i64 e, .bool (ng n), .slice B (zl n) d, .int .i64 f]) (by simp [results, Tryz.results27, go_sem, k0, k1, k2, k3, k4, k5]) rfl ⟨_, rfl, isI_n (LP.getN (by simp)) (LP.getN (by simp)), LP.below⟩
theorem icm_le16 {m e n f m2 e2 n2 f2 : Int} (h2 : dq m e ≤ dq n2 f2) : icm m e n f m2 e2 n2 f2 ≤ 0:=by
 have h3 : dcm m e n2 f2 ≤ 0:=(dcm_le _ _ _ _).2 h2
 unfold icm
 (repeat' split) <;> omega
theorem icm_meet16 {m e n f m2 e2 n2 f2 : Int} (h1 : dq m2 e2 ≤ dq n f) (h2 : dq m e ≤ dq n2 f2) : icm m e n f m2 e2 n2 f2 = 0:=by
 have h3 : dcm m2 e2 n f ≤ 0:=(dcm_le _ _ _ _).2 h1
 have h4 : dcm m e n2 f2 ≤ 0:=(dcm_le _ _ _ _).2 h2
 have h5:=dcm_swap m2 e2 n f
 unfold icm
 (repeat' split) <;> omega
theorem top_ub16 {m e : Int} {z : Nat} (hz : zl m ≤ z) (he : e ≤ 1000) (hb : 32 * (z : Int) + 1000 ≤ 2048) : topZ m e ≤ 2048:=by
 have h:=blen_le_len m.natAbs
 have e1 : zl m = len m.natAbs:=rfl
 unfold topZ
 split <;> omega
theorem small16 {m e n f : Int} (zm : zl m ≤ 32) (zn : zl n ≤ 32) (he : -8000 ≤ e ∧ e ≤ 1000) (hf : -8000 ≤ f ∧ f ≤ 1000) (hle : dcm m e n f ≤ 0) : smallB m e n f = true:=
 small14 (by omega) (by omega) (by omega) (by omega) hle (top_ub16 zm (by omega) (by omega)) (top_ub16 zn (by omega) (by omega))
structure ArgA (m e n f : Int) : Prop where
 vm : Dv m e
 vn : Dv n f
 le : dcm m e n f ≤ 0
 zm : zl m ≤ 3
 zn : zl n ≤ 3
 em : -50 ≤ e ∧ e ≤ 146
 en : -50 ≤ f ∧ f ≤ 146
theorem ArgA.dle {m e n f : Int} (h : ArgA m e n f) : dq m e ≤ dq n f:=(dcm_le _ _ _ _).1 h.le
theorem ArgA.small {m e n f : Int} (h : ArgA m e n f) : smallB m e n f = true:=by
 obtain ⟨_, _, h3, h4, h5, h6, h7⟩:=h
 exact small16 (by omega) (by omega) (by omega) (by omega) h3
theorem ArgA.neg {m e n f : Int} (h : ArgA m e n f) : ArgA (-n) f (-m) e:=by
 obtain ⟨h1, h2, h3, h4, h5, h6, h7⟩:=h
 refine ⟨dv_neg9 h2, dv_neg9 h1, ?_, by rw [zl_neg]; exact h5, by rw [zl_neg]; exact h4, h7, h6⟩
 refine (dcm_le _ _ _ _).2 ?_
 have:=(dcm_le _ _ _ _).1 h3
 rw [dq_neg, dq_neg]
 grind
theorem ea_eb {k : Nat} {a b : Int} {x y : Rat} (ha : EaA k a x) (hb : EaB k b y) (hxy : x ≤ y) : dq a (-(k : Int)) ≤ dq b (-(k : Int)):=at_le ha.1 hb.2 hxy
theorem at_big (x : Rat) : AtU x (8 / 5):=by
 have h0 : UpC (501 / 100) (1 / (501 / 100)):=UpC.small (by decide +kernel) (by decide +kernel)
 have h1:=h0.dbl (c:=241 / 100) (by decide +kernel) (kd_le9 (by decide +kernel) (by decide +kernel))
 have h2:=h1.dbl (c:=1) (by decide +kernel) (kd_le9 (by decide +kernel) (by decide +kernel))
 have h3:=h2.dbl (c:=0) (by decide +kernel) (kd_le9 (by decide +kernel) (by decide +kernel))
 unfold AtU AtL
 rcases (show x < 0 ∨ x = 0 ∨ 0 < x by grind) with h | h | h
 ·exact Or.inl ⟨by grind, LoC.nonpos (by decide +kernel)⟩
 ·exact Or.inr (Or.inl ⟨by grind, by decide +kernel⟩)
 ·refine Or.inr (Or.inr ⟨by grind, ?_⟩)
  rw [Rat.neg_neg, Rat.neg_neg]
  exact h3.mono (by decide +kernel) (Rat.le_of_lt (Rat.inv_pos.2 h))
theorem at_low (x : Rat) : AtL (-(8 / 5)) x:=by
 have:=(at_big (-x)).neg
 rwa [Rat.neg_neg] at this
theorem unit_8 {k : Nat} (h : 3 ≤ k) : dq 1 (-(k : Int)) ≤ 1 / 8:=by
 have:=dq_anti (show -(k : Int) ≤ -3 by omega)
 rwa [show dq 1 (-3) = 1 / 8 by decide +kernel] at this
theorem EaA.ge2 {k : Nat} {a : Int} {x : Rat} (h : EaA k a x) (hk : 3 ≤ k) : -2 ≤ dq a (-(k : Int)):=by
 have h1:=at_le (at_low x) h.2 Rat.le_refl
 have h2:=unit_8 hk
 generalize dq a (-(k : Int)) = y at *
 generalize dq 1 (-(k : Int)) = u at *
 clear h
 grind
theorem EaB.le2 {k : Nat} {b : Int} {x : Rat} (h : EaB k b x) (hk : 3 ≤ k) : dq b (-(k : Int)) ≤ 2:=by
 have h1:=at_le h.1 (at_big x) Rat.le_refl
 have h2:=unit_8 hk
 generalize dq b (-(k : Int)) = y at *
 generalize dq 1 (-(k : Int)) = u at *
 clear h
 grind
theorem gr16 {T : Int} {k j : Nat} (h : AbP T j) (hj : j ≤ 500) (hk : k ≤ 300) : zl (mkM T (-(k : Int))) ≤ j / 32 + 1 ∧ (-(k : Int) ≤ mkE T (-(k : Int)) ∧ mkE T (-(k : Int)) ≤ 532) ∧ Dv (mkM T (-(k : Int))) (mkE T (-(k : Int))) ∧ dq (mkM T (-(k : Int))) (mkE T (-(k : Int))) = dq T (-(k : Int)):=by
 obtain ⟨a1, a2, a3, a4, a5⟩:=nx (x := -(k : Int)) h (by omega) (by omega)
 exact ⟨by omega, by omega, a4, a5⟩
theorem neg_one {m e : Int} {k : Nat} (hv : Dv m e) (hz : zl m ≤ 6) (he : e ≤ 600) (h0 : 0 ≤ e + (k : Int)) (hk : k ≤ 400) : mkM (cutQ (dq m e) (k : Int)) (-(k : Int)) = m ∧ mkE (cutQ (dq m e) (k : Int)) (-(k : Int)) = e ∧ zl (cutQ (dq m e) (k : Int)) ≤ 30 + ((k : Int).toNat / 32 + 1):=by
 obtain ⟨j, hj⟩ : ∃ j : Nat, e + (k : Int) = (j : Int):=⟨(e + (k : Int)).toNat, by omega⟩
 have c:=cutD_up (m:=m) j hj
 have z:=zl_cutD m e (k : Int)
 have hz2 : zl (cutQ (dq m e) (k : Int)) ≤ 30 + ((k : Int).toNat / 32 + 1):=by
  rw [hj] at z
  have : ((j : Int)).toNat = j:=rfl
  rw [this] at z
  have t : ((k : Int)).toNat = k:=rfl
  rw [t]
  omega
 have hr : mkR (cutQ (dq m e) (k : Int)) (-(k : Int)) = 0:=mk_fits9 (by omega) (by omega) (by omega)
 have q:=dq_mk hr
 have e1 : dq (cutQ (dq m e) (k : Int)) (-(k : Int)) = dq m e:=by
  rw [c]
  refine dq_eq (F := -(k : Int)) ?_ (by omega) (by omega)
  rw [show (-(k : Int) - -(k : Int)).toNat = 0 by omega, show (e - -(k : Int)).toNat = j by omega]
  simp
 obtain ⟨a, b⟩:=dv_uniq (mk_ok hr) hv (by rw [q, e1])
 exact ⟨a, b, hz2⟩
theorem neg_any {m e n f : Int} {k : Nat} (hv : Dv m e) (hv2 : Dv n f) (hz : zl m ≤ 6) (hz2 : zl n ≤ 6) (he : e ≤ 600) (hf : f ≤ 600) (h0 : 0 ≤ e + (k : Int)) (h1 : 0 ≤ f + (k : Int)) (hk : k ≤ 400) (hle : dq m e ≤ dq n f) : ∀ W, RetEn W (-(dq n f)) (-(dq m e)) (k : Int) = RetIE W (-n) f (-m) e 0:=fun W => by
 have hwk : workB (k : Int) = true:=by
  unfold workB
  rw [decide_eq_true (show (0 : Int) ≤ (k : Int) by omega), decide_eq_true (show (k : Int) ≤ 4096 by omega)]
  rfl
 obtain ⟨a1, a2, a3⟩:=neg_one (k:=k) (dv_neg9 hv2) (by rw [zl_neg]; exact hz2) hf h1 hk
 obtain ⟨b1, b2, b3⟩:=neg_one (k:=k) hv hz he h0 hk
 rw [dq_neg] at a1 a2 a3
 have zn : zl (-(cutQ (dq m e) (k : Int))) ≤ 30 + ((k : Int).toNat / 32 + 1):=by rw [zl_neg]; exact b3
 rw [RetEn.ok (lo := -(dq n f)) (hi := -(dq m e)) hwk (z:=30) a3 (by rw [Rat.neg_neg]; exact zn) (by omega) (by grind) W]
 unfold enM enE upM upE
 rw [Rat.neg_neg, a1, a2]
 have hr : mkR (cutQ (dq m e) (k : Int)) (-(k : Int)) = 0:=mk_fits9 (by omega) (by omega) (by omega)
 have hr2 : mkR (-(cutQ (dq m e) (k : Int))) (-(k : Int)) = 0:=mk_fits9 (by omega) (by omega) (by omega)
 have q:=dq_mk hr
 rw [b1, b2] at q
 obtain ⟨c1, c2⟩:=dv_uniq (mk_ok hr2) (dv_neg9 hv) (by rw [dq_mk hr2, dq_neg, dq_neg, ← q])
 rw [c1, c2]


theorem awake16_any (w : World) (hT : Tab w) :
  Calls Tryz.prog 19 #[] w (RetB w true):=by
 have HT:=Hd9 (fun W (hW : Below w.heap.size w W) => hT.mono hW)
 have z0 : zl 0 ≤ 1:=len_le1 (by decide)
 have hd0 : dq 0 0 = 0:=dq_zero 0
 have dv0 : Dv 0 0:=Or.inl ⟨rfl, rfl⟩
 have g1:=fun W => of16_any 0 0 W (by omega) (by omega)
 rw [nf00.1, nf00.2] at g1
 have g2:=fun v W h (hW : Below w.heap.size w W) => tatan_yes 0 0 0 0 4 v W h (by omega) (by omega) (by omega) (by omega) dv0 dv0 (by decide +kernel) (by omega) (hT.mono hW)
 have g4:=fun W => trecip_arg 1 5 W (Or.inr (Or.inl (by omega)))
 have g5:=fun W => (show Calls Tryz.prog 34 #[.int .i64 0] W (RetP W 0 1) from rofn7_any 0 W (by omega) (by omega))
 have G1:=Hd9 g1
 have G2:=Hd9 g2
 have G4:=Hd9 g4
 have G5:=Hd9 g5
 clear g1 g2 g4 g5 hT dv0
 go_enter Tryz.func19, Tryz.ntmps19
 go_wp2_with fail
 have L:=Lq.mk0 w
 (try go_wp2_with fail)
 refine (G1.out _).mono ?_
 rintro e w1 ⟨vv, rfl, ii, be⟩
 obtain ⟨A1, c1, B1, d1, rfl, ia, ib⟩:=ii.form
 replace L:=((L.step be).n ib).n ia
 clear be ii ia ib
 (try go_wp2_with fail)
 refine (G2.out _ _ (isI_n (m:=0) (e:=0) (n:=0) (f:=0) (s:=.slice A1 (zl 0) c1) (t:=.slice B1 (zl 0) d1) (L.getN (by simp)) (L.getN (by simp))) L.below).mono ?_
 intro e9 w2 hr9
 obtain ⟨a, b, ⟨ea, eb, za, zb⟩, vv, rfl, ii, be⟩:=hr9
 obtain ⟨A2, c2, B2, d2, rfl, ia, ib⟩:=ii.form
 replace L:=((L.step be).n ib).n ia
 clear be ii ia ib
 obtain ⟨x1, x2, x3, x5⟩:=gr16 (k:=4) za (by omega) (by omega)
 obtain ⟨y1, y2, y3, y5⟩:=gr16 (k:=4) zb (by omega) (by omega)
 rw [hd0] at ea eb
 have zU : AtU 0 0:=Or.inr (Or.inl ⟨by decide +kernel, by decide +kernel⟩)
 have zL : AtL 0 0:=Or.inr (Or.inl ⟨rfl, Rat.le_refl⟩)
 have q1:=at_le ea.1 zU Rat.le_refl
 have q2:=at_le zL eb.2 Rat.le_refl
 have g6 : ∀ v u W, IsI W v (mkM a (-((4 : Nat) : Int))) (mkE a (-((4 : Nat) : Int))) (mkM b (-((4 : Nat) : Int))) (mkE b (-((4 : Nat) : Int))) → IsP W u 0 1 → Calls Tryz.prog 76 #[v, u] W (RetB W true):=fun v u W h k9 => by
  have s:=r10has_any _ _ _ _ 0 1 v u W h k9 (by omega) (by omega) (by omega) (by omega) (Nat.le_trans z0 (by omega)) (Nat.le_trans (len_le1 (by decide)) (by omega))
  rwa [(hasB_iff _ _ _ _ _ _ (by omega)).2 ⟨by rw [x5]; exact q1, by rw [y5]; exact q2⟩] at s
 obtain ⟨M, hM⟩:=nm9 (mkM a (-((4 : Nat) : Int)))
 obtain ⟨E, hE⟩:=nm9 (mkE a (-((4 : Nat) : Int)))
 obtain ⟨N, hN⟩:=nm9 (mkM b (-((4 : Nat) : Int)))
 obtain ⟨G, hG⟩:=nm9 (mkE b (-((4 : Nat) : Int)))
 rw [hM, hE, hN, hG] at g6
 rw [hM, hN] at L ⊢
 rw [hE, hG]
 have G6:=Hd9 g6
 clear g6 x1 x2 x3 x5 y1 y2 y3 y5 q1 q2 zU zL ea eb za zb hM hE hN hG G1 G2
 replace L:=L.varI w2.heap.size rfl (ng M) A2 (zl M) c2 E (ng N) B2 (zl N) d2 G
 obtain ⟨cel00,cel01,cel02,cel03,cel04,cel05⟩:=L.b0.a6
 go_wp2_with fail
 clear cel00 cel01 cel02 cel03 cel04 cel05
 obtain ⟨b1, hb1⟩:=nm9 (w2.heap.size)
 rw [hb1] at L ⊢
 clear hb1
 refine (G4.out _).mono ?_
 rintro e w3 ⟨vv, rfl, ii, be⟩
 obtain ⟨A4, c4, B4, d4, rfl, ia, ib⟩:=ii.form
 replace L:=((L.step be).n ib).n ia
 clear be ii ia ib
 have hl2:=L.b0.lt
 replace L:=L.varI w3.heap.size rfl (ng 0) A4 (zl 0) c4 0 (ng 0) B4 (zl 0) d4 0
 obtain ⟨cel00,cel01,cel02,cel03,cel04,cel05⟩:=L.b0.a6
 go_wp2_with fail
 clear cel00 cel01 cel02 cel03 cel04 cel05
 obtain ⟨b2, hb2⟩:=nm9 (w3.heap.size)
 rw [hb2] at L hl2 ⊢
 clear hb2
 replace L:=L.drew
 obtain ⟨cel10,cel11,cel12,cel13,cel14,cel15⟩:=L.tl.b0.a6
 go_region_held3 (fun w' => w'.cell? ⟨b1, 0, none⟩ = some (.bool (ng M)) ∧ w'.cell? ⟨b1, 1, none⟩ = some (.slice A2 (zl M) c2) ∧ w'.cell? ⟨b1, 2, none⟩ = some (.int .i64 E) ∧ w'.cell? ⟨b1, 3, none⟩ = some (.bool (ng N)) ∧ w'.cell? ⟨b1, 4, none⟩ = some (.slice B2 (zl N) d2) ∧ w'.cell? ⟨b1, 5, none⟩ = some (.int .i64 G)) (first | (with_reducible exact ⟨L.tl.b0.c60, L.tl.b0.c61, L.tl.b0.c62, L.tl.b0.c63, L.tl.b0.c64, L.tl.b0.c65⟩) | exact ⟨L.tl.b0.c60, L.tl.b0.c61, L.tl.b0.c62, L.tl.b0.c63, L.tl.b0.c64, L.tl.b0.c65⟩) (first | (go_at_call 34; (with_reducible refine (G5.out _ ).mono ?_); rintro e wh ⟨vh, rfl, iq, be⟩; replace L:=(L.step be).q iq; clear be iq) | (go_at_call 76; (with_reducible refine (G6.out _ _ _ ?_ ?_ ).mono ?_); (· (refine isI_n (L.getN ?_) (L.getN ?_); all_goals (repeat (first | (with_reducible exact mS) | apply mT)))); (· (refine L.getQ ?_; (repeat (first | (with_reducible exact mS) | apply mT)))); rintro e wh ⟨rfl, be⟩; replace L:=L.step be; clear be))
 (try go_wp2_with fail)
 (try go_ret)
 exact ⟨rfl, L.below⟩

section
open Go.ChangeShapes Go.WideShapes Go.ChangeAt

theorem open_slice8 {H : Type} {enc : TypeId × Value → H} {W : World} {base : Nat} {fuel : Nat} {v : Value} {x : DataW H × List MemPlace} (h : DataW.trod enc Tryz.prog W base (fun _ => true) true fuel 22 [v] = some x) : ∃ a n c l, v = .slice a n c ∧ Sl W a n c l:=by
 rcases open_ints Tryz.underlying22 Tryz.underlying148 (by kernel_rfl) h with ⟨hcs, _⟩ | ⟨x, l, c, zs, hcs, _, hl, hm, hz, _, hcell, hwz⟩
 ·exact ⟨none, 0, 0, [], by simpa using hcs, Sl.nil W⟩
 ·exact ⟨_, _, _, _, by simpa using hcs, sl_of_ints hl hm (by simpa using hz) hcell hwz⟩
end
section
open Go.ChangeShapes Go.WideShapes Go.ChangeAt

theorem array6 {a : Array Value} (h : a.size = 6) : ∃ x0 x1 x2 x3 x4 x5, a = #[x0, x1, x2, x3, x4, x5]:=by
 obtain ⟨l⟩:=a
 rcases l with _ | ⟨x0, _ | ⟨x1, _ | ⟨x2, _ | ⟨x3, _ | ⟨x4, _ | ⟨x5, _ | ⟨x6, l⟩⟩⟩⟩⟩⟩⟩ <;> first | exact ⟨_, _, _, _, _, _, rfl⟩ | (exfalso; simp at h)
theorem open_dy3 {H : Type} {enc : TypeId × Value → H} {W : World} {base n : Nat} {c0 c1 c2 : Value} {y : DataW H × List MemPlace} (h : DataW.trod enc Tryz.prog W base (fun _ => true) true n 26 [c0, c1, c2] = some y) :
  ∃ b A p c l e, c0 = .bool b ∧ c1 = .slice A p c ∧ c2 = .int .i64 e ∧ Sl W A p c l ∧ -9223372036854775808 ≤ e ∧ e ≤ 9223372036854775807:=by
 obtain ⟨y0, y1, n, _, _, h0, h1⟩:=trod_struct2 Tryz.underlying26 h
 have e0 : Tryz.prog.cellsOf 24 = 2:=by kernel_rfl
 have e1 : Tryz.prog.cellsOf 22 = 1:=by kernel_rfl
 have e3 : Tryz.prog.cellsOf 3 = 1:=by kernel_rfl
 have h0' : DataW.trod enc Tryz.prog W base (fun _ => true) true n 24 [c0, c1] = some y0:=by
  simpa [Value.cells, e0] using h0
 have h1' : DataW.trod enc Tryz.prog W base (fun _ => true) true n 3 [c2] = some y1:=by
  simpa [Value.cells, e0, e3] using h1
 obtain ⟨z0, z1, n2, _, _, g0, g1⟩:=trod_struct2 Tryz.underlying24 h0'
 have e2 : Tryz.prog.cellsOf 4 = 1:=by kernel_rfl
 have g0' : DataW.trod enc Tryz.prog W base (fun _ => true) true n2 4 [c0] = some z0:=by
  simpa [e2] using g0
 have g1' : DataW.trod enc Tryz.prog W base (fun _ => true) true n2 22 [c1] = some z1:=by
  simpa [e1, e2] using g1
 obtain ⟨b, hb, _⟩:=DataW.trod_bool Tryz.underlying4 g0'
 obtain rfl : c0 = .bool b:=by simpa using hb
 obtain ⟨A, n3, c3, l, rfl, s1⟩:=open_slice8 g1'
 obtain ⟨e, he, _, hw⟩:=DataW.trod_int Tryz.underlying3 h1'
 obtain rfl : c2 = .int .i64 e:=by simpa using he
 obtain ⟨k1, k2⟩:=bounds_i64 hw
 exact ⟨b, A, n3, c3, l, e, rfl, rfl, rfl, s1, k1, k2⟩
theorem open_iv {H : Type} {enc : TypeId × Value → H} {W : World} {r : Reach} {b0 base : Nat} {v : Value} {d : DataW H} {p : List MemPlace} (hv : Value.okWide Tryz.prog W r b0 28 v) (h : DataW.Trod enc Tryz.prog W base (fun _ => true) true 28 v d p) :
  ∃ b A n c l e b' A' n' c' l' e', v = .agg #[.bool b, .slice A n c, .int .i64 e, .bool b', .slice A' n' c', .int .i64 e'] ∧ (Sl W A n c l ∧ -9223372036854775808 ≤ e ∧ e ≤ 9223372036854775807) ∧ (Sl W A' n' c' l' ∧ -9223372036854775808 ≤ e' ∧ e' ≤ 9223372036854775807):=by
 obtain ⟨cs, rfl, hsz⟩:=okWide_struct Tryz.underlying28 hv
 obtain ⟨c0, c1, c2, c3, c4, c5, rfl⟩:=array6 (hsz.trans (show Tryz.prog.cellsOf 28 = 6 by kernel_rfl))
 obtain ⟨fuel, hf⟩:=h
 obtain ⟨y0, y1, n, _, _, h0, h1⟩:=trod_struct2 Tryz.underlying28 hf
 have e0 : Tryz.prog.cellsOf 26 = 3:=by kernel_rfl
 have h0' : DataW.trod enc Tryz.prog W base (fun _ => true) true n 26 [c0, c1, c2] = some y0:=by
  simpa [Value.cells, e0] using h0
 have h1' : DataW.trod enc Tryz.prog W base (fun _ => true) true n 26 [c3, c4, c5] = some y1:=by
  simpa [Value.cells, e0] using h1
 obtain ⟨b, A, n1, k, l, e, rfl, rfl, rfl, q1⟩:=open_dy3 h0'
 obtain ⟨b', A', n1', k', l', e', rfl, rfl, rfl, q2⟩:=open_dy3 h1'
 exact ⟨b, A, n1, k, l, e, b', A', n1', k', l', e', rfl, q1, q2⟩

end

end Go.Proofs.YtmgbjldogggpcaaGreatDoor
