/- Joined: RefAtD, ArPHp, AtA, RdPA, LnA, LnE, AtB, AtC, AtD (what the law leans on). -/
import Derived.Test.YtiddbhhhmeopeaaGreatDoorBaseIW9
import Derived.Test.YtiddbhhhmeopeaaGreatDoorBaseDW9
import Derived.Test.YtiddbhhhmeopeaaGreatDoorBaseEW9
import Derived.Test.YtiddbhhhmeopeaaGreatDoorBaseMW9
import Derived.Test.YtiddbhhhmeopeaaGreatDoorBaseVW9
import Derived.Test.YtiddbhhhmeopeaaGreatDoorBaseSW9
import Derived.Test.YtiddbhhhmeopeaaGreatDoorBaseGW9
import Derived.Test.YtiddbhhhmeopeaaGreatDoorGrPAW9
import Derived.Test.YtiddbhhhmeopeaaGreatDoorGrPCW9
import Derived.Test.YtiddbhhhmeopeaaGreatDoorBaseUW9
import Derived.Test.YtiddbhhhmeopeaaGreatDoorJW91
import Derived.Test.YtiddbhhhmeopeaaGreatDoorJW92
import Derived.Test.YtiddbhhhmeopeaaGreatDoorJW93
import Derived.Deep.Cut
import Derived.Deep.CutRange
import Derived.Deep.DrawnRows
import Derived.Deep.RegionHeld3
import Derived.Deep.RegionWith
namespace Go.Proofs.YtiddbhhhmeopeaaGreatDoor
set_option maxHeartbeats 64000000
open Go.RowKit
set_option linter.unusedVariables false
set_option linter.unusedSimpArgs false
set_option maxRecDepth 100000
attribute [local go_sem ↓] Go.wp_at_zero Go.wp_at_succ
def RetAf (w:World) (x:Rat) (j:Nat) (en:Ending) (w':World):Prop:=∃ a b,RetI6 w (mkM a (-(j:Int))) (mkE a (-(j:Int))) (mkM b (-(j:Int))) (mkE b (-(j:Int))) en w'∧AtW j a b x∧AbP a 60000∧AbP b 60000
theorem RetAf.mk {w w':World} {x:Rat} {j:Nat} {en:Ending} {M E N F:Int} (h:∃ a b,mkM a (-(j:Int)) = M∧mkE a (-(j:Int)) = E∧mkM b (-(j:Int)) = N∧mkE b (-(j:Int)) = F∧AtW j a b x∧AbP a 60000∧AbP b 60000) (hr:RetI6 w M E N F en w'):RetAf w x j en w':=by
 obtain ⟨a,b,rfl,rfl,rfl,rfl,h⟩:=h
 exact ⟨a,b,hr,h⟩
theorem abp_zl9 {x:Int} {n j:Nat} (h:zl x≤n) (hj:32 * n≤j):AbP x j:=by
 have h1:=lt_pow_len x.natAbs
 have h2:W32 ^ zl x≤W32 ^ n:=Nat.pow_le_pow_right W32_pos h
 have h3:W32 ^ n = 2 ^ (32 * n):=by rw [show W32 = 2 ^ 32 from rfl,← Nat.pow_mul]
 have h4:(2:Nat) ^ (32 * n)≤2 ^ j:=Nat.pow_le_pow_right (by omega) hj
 unfold AbP
 have h5:x.natAbs < W32 ^ zl x:=h1
 omega
theorem pi_size9 {v:Nat} (hv:v < 200):zl (piL v)≤1500∧zl (piH v)≤1500:=by
 obtain ⟨a1,a2⟩:=at_size13 (n:=5) (by omega) (show v≤10000 by omega)
 obtain ⟨b1,b2⟩:=at_size13 (n:=239) (by omega) (show v≤10000 by omega)
 have z16:zl 16≤1:=len_le1 (by omega)
 have z4:zl 4≤1:=len_le1 (by omega)
 have c1:=zl_mul (atL 5 v) 16
 have c2:=zl_mul (atH 5 v) 16
 have c3:=zl_mul (atL 239 v) 4
 have c4:=zl_mul (atH 239 v) 4
 have d1:=zl_add (atL 5 v * 16) (-(atH 239 v * 4))
 have d2:=zl_add (atH 5 v * 16) (-(atL 239 v * 4))
 have e1:=zl_neg (atH 239 v * 4)
 have e2:=zl_neg (atL 239 v * 4)
 have l:piL v = atL 5 v * 16 + -(atH 239 v * 4):=rfl
 have h:piH v = atH 5 v * 16 + -(atL 239 v * 4):=rfl
 rw [l,h]
 omega
theorem pi_le_all:(List.range 200).all (fun v => decide (piL v≤piH v)) = true:=by decide +kernel
theorem pi_le9 {v:Nat} (hv:v < 200):piL v≤piH v:=of_decide_eq_true (List.all_eq_true.1 pi_le_all v (List.mem_range.2 hv))
theorem zl_cutN (m e p:Int):zl (-(cutQ (-(dq m e)) p))≤zl m + ((e + p).toNat / 32 + 1):=by
 rw [zl_neg,← dq_neg]
 have:=zl_cutD (-m) e p
 rwa [zl_neg] at this
theorem keep3 {V W:World} {g0 j0:Nat} {v0:Value} {g1 j1:Nat} {v1:Value} {g2 j2:Nat} {v2:Value} (q0:∀ Z,Below V.heap.size V Z → Z.cell? ⟨g0,j0,none⟩ = some v0) (q1:∀ Z,Below V.heap.size V Z → Z.cell? ⟨g1,j1,none⟩ = some v1) (q2:∀ Z,Below V.heap.size V Z → Z.cell? ⟨g2,j2,none⟩ = some v2) (h:Below V.heap.size V W):W.cell? ⟨g0,j0,none⟩ = some v0∧W.cell? ⟨g1,j1,none⟩ = some v1∧W.cell? ⟨g2,j2,none⟩ = some v2:=⟨q0 _ h,q1 _ h,q2 _ h⟩
theorem abs_q (m e:Int):0≤dq (m.natAbs:Int) e∧(m < 0 → dq m e = -(dq (m.natAbs:Int) e))∧(0≤m → dq m e = dq (m.natAbs:Int) e):=by
 refine ⟨?_,fun h => ?_,fun h => ?_⟩
 ·have:=(dq_le_iff 0 (m.natAbs:Int) e).2 (by omega)
  rwa [dq_zero] at this
 ·rw [← dq_neg,show -(m.natAbs:Int) = m by omega]
 ·rw [show (m.natAbs:Int) = m by omega]

theorem s16at_unit (m e:Int) (k:Nat) (vx:Value) (w:World) (hx:IsD w vx m e) (lm:zl m≤100) (he:-9000≤e∧e≤4000) (hk:k≤130) (hq1:dq (m.natAbs:Int) e≤1) :
  Calls Tryz.prog 18 #[vx,.int .i64 (k:Int)] w (RetAf w (dq m e) (k + 16)):=by
 obtain ⟨A,c,rfl,_,hn⟩:=hx.form
 have L0:=(Lq.mk0 w).n hn
 obtain ⟨v,hv9⟩:∃ v:Nat,(k:Int) + 60 = (v:Int):=⟨k + 60,by omega⟩
 have hvb:60≤v∧v < 200:=by omega
 have w0:IntKind.i64.wrap ((k:Int) + 60) = (v:Int):=by rw [IntKind.wrap_i64];omega
 obtain ⟨hq0,hqn,hqp⟩:=abs_q m e
 have lM:zl (m.natAbs:Int)≤100:=lm
 have g1:=fun x W h => rznn_any m.natAbs x W h (show len m.natAbs≤1000000 from Nat.le_trans lm (by omega))
 obtain ⟨M,hM⟩:∃ z:Int,(m.natAbs:Int) = z:=⟨_,rfl⟩
 have nM:M.natAbs = m.natAbs:=by omega
 rw [hM] at g1 hq0 hqn hqp lM hq1
 have g2:=fun W => rof8_any 1 W (by omega) (by omega)
 rw [show mkM 1 0 = 1 by decide +kernel,show mkE 1 0 = 0 by decide +kernel] at g2
 have z1:zl 1≤1:=len_le1 (by omega)
 have g3:=fun x y W h j => rcmp8_any M e 1 0 x y W h j (by omega) (by omega) (by omega) (by omega)
 rw [show cmpI (M * 2 ^ (e - min e 0).toNat) (1 * 2 ^ (0 - min e 0).toNat) = dcm M e 1 0 from rfl] at g3
 have e10:dq 1 0 = 1:=by decide +kernel
 have hc:=dcm_le M e 1 0
 rw [e10] at hc
 generalize dcm M e 1 0 = cm at g3 hc
 have d9:decide (0 < cm) = false:=decide_eq_false (by have:=hc.2 hq1;omega)
 clear hc e10 z1
 obtain ⟨u1,u2,u3⟩:=cut_unit hq0 hq1 v
 have g4:=fun x W h => s13at_any M e v x W h (by omega) (by omega) (by omega)
 have hsp:=SpC.at (dq M e) v
 obtain ⟨C,hC⟩:=nm9 (cutQ (dq M e) (v:Int))
 obtain ⟨D,hD⟩:=nm9 (-(cutQ (-(dq M e)) (v:Int)))
 rw [hC] at g4 u1 u2 hsp
 rw [hD] at g4 u2 u3 hsp
 have g5:=fun x W h => s16inner_any C D v x W h u1 u2 u3 hvb
 have HIN:Hid (∀ s t,InU v C D s t → AtW v s t (dq M e)):=Hd9 (fun s t h => by
  obtain ⟨x1,x2⟩:=h _ hsp hq0
  exact AtW.of x1 x2)
 clear hC hD u1 u2 u3 hsp
 have G1:=Hd9 g1
 have G2:=Hd9 g2
 have G3:=Hd9 g3
 have G4:=Hd9 g4
 have G5:=Hd9 g5
 clear g1 g2 g3 g4 g5
 have HV:=Hd9 (And.intro hv9 (And.intro hvb hk))
 have HX:=Hd9 (And.intro hqn hqp)
 have HM:=Hd9 (And.intro hM nM)
 have in9:=hn
 rw [← nM] at in9
 have L0:=L0.n in9
 clear hx hn lm lM he hk hv9 hvb hq0 hqn hqp hM nM hq1 in9
 go_enter Tryz.func18,Tryz.ntmps18
 have L:=((L0.varD (w.heap.size) (by simp) (ng m) A (zl m) c e).varI (w.heap.size + 1) (by simp) false none 0 0 0 false none 0 0 0)
 obtain ⟨c10,c11,c12⟩:=L.tl.b0.a3
 (try go_wp2_with fail)
 replace L:=L.varD (w.heap.size + 1 + 1) (by simp) (ng m) A (zl m) c e
 clear c10 c11 c12
 obtain ⟨V0,hV,L9⟩:=L.name
 rw [hV]
 clear hV L
 have L:=L9
 clear L9
 refine (G1.out _ _ (L.getN (v:=.slice A (zl m) c) (x:=m.natAbs) (by simp))).mono ?_
 rintro e w1 ⟨vz,rfl,iz,be⟩
 obtain ⟨A1,c1,rfl,in9⟩:=iz.form
 replace L:=(L.step be).n in9
 clear be iz in9
 have hl9:=L.b0.lt
 obtain ⟨c00,c01,c02⟩:=L.b0.a3
 obtain ⟨f00,f01,f02⟩:=L.b0.f3
 have P:Lq w _ _ _ _ (((w.heap.size + 1 + 1,26,#[.bool (ng M),.slice A1 (zl M) c1,.int .i64 e]) :: _)):=(L.set (by omega) (by first | (simp;done) | (simp;omega)) 0 (.bool (ng M)) (by intro x e;cases e)).set (by omega) (by first | (simp;done) | (simp;omega)) 1 (.slice A1 (zl M) c1) (by intro x e;cases e)
 obtain ⟨p0,p1,p2⟩:=P.b0.a3
 go_wp2_with fail
 have L9:=P.varS w1.heap.size (by simp) false none 0 0 false none 0 0
 clear P p0 p1 p2
 clear c00 f00 c01 f01 c02 f02
 clear L
 have L:=L9
 clear L9
 obtain ⟨gz,hgz⟩:=nm9 (w1.heap.size)
 rw [hgz] at L hl9 ⊢
 clear hgz
 replace L:=L.drew
 obtain ⟨c10,c11,c12⟩:=L.tl.b0.a3
 go_region_held3 (fun w' => w'.cell? ⟨w.heap.size + 1 + 1,0,none⟩ = some (.bool (ng M))∧w'.cell? ⟨w.heap.size + 1 + 1,1,none⟩ = some (.slice A1 (zl M) c1)∧w'.cell? ⟨w.heap.size + 1 + 1,2,none⟩ = some (.int .i64 e)) (first | (with_reducible exact ⟨L.tl.b0.c30,L.tl.b0.c31,L.tl.b0.c32⟩) | exact ⟨L.tl.b0.c30,L.tl.b0.c31,L.tl.b0.c32⟩) (first | (go_at_call 25;(with_reducible refine (G2.out _ ).mono ?_);rintro e wh ⟨vh,rfl,id,be⟩;obtain ⟨A0,c0,rfl,_,in9⟩:=id.form;replace L:=(L.step be).n in9;clear be id in9) | (go_at_call 53;(with_reducible refine (G3.out _ _ _ ?_ ?_ ).mono ?_);(· (refine isD_n (L.getN ?_);(repeat (first | (with_reducible exact mS) | apply mT))));(· (refine isD_n (L.getN ?_);(repeat (first | (with_reducible exact mS) | apply mT))));rintro e wh ⟨rfl,be⟩;replace L:=L.step be;clear be))
 clear c10 c11 c12
 have hvg:w.heap.size + 1 + 1 < gz:=hl9
 clear hl9
 obtain ⟨c10,c11,c12⟩:=L.tl.b0.a3
 (try go_wp2_with fail)
 refine (G4.out _ _ (isD_n (m:=M) (e:=e) (s:=.slice A1 (zl M) c1) (L.getN (by simp)))).mono ?_
 rintro e w2 ⟨vv,rfl,iq,be⟩
 clear c10 c11 c12
 obtain ⟨A2,c2,B2,d2,rfl,ia,ib⟩:=iq.form
 replace L:=((L.step be).n ib).n ia
 clear be iq ia ib
 (try go_wp2_with fail)
 refine (G5.out _ _ (isS_n (a:=C) (b:=D) (s:=.slice A2 (zl C) c2) (t:=.slice B2 (zl D) d2) (L.getN (by simp)) (L.getN (by simp)))).mono ?_
 rintro e w3 ⟨R,S,⟨vv,rfl,iq,be⟩,hIn,sR,sS⟩
 obtain ⟨A3,c3,B3,d3,rfl,ia,ib⟩:=iq.form
 replace L:=((L.step be).n ib).n ia
 clear be iq ia ib
 have hAW:=HIN.out _ _ hIn
 have hvb:=HV.out.2.1
 have hs1:zl R≤1800:=Nat.le_trans sR.zl (by omega)
 have hs2:zl S≤1800:=Nat.le_trans sS.zl (by omega)
 clear hIn HIN sR sS hvb
 generalize hz:ng m = z at *
 cases z
 ·have hu:=hAW
  rw [← HX.out.2 (Int.not_lt.1 (of_decide_eq_false hz))] at hu
  clear hAW HX hz
  obtain ⟨hv9,hvb,hk⟩:=HV.out
  have hj:v = k + 16 + 44:=by omega
  have q1:=hu.out hj
  have q2:AbP (R / 2 ^ 44) 60000:=abp_zl9 (Nat.le_trans (zl_floor R (pow2_pos 44)) hs1) (by omega)
  have q3:AbP (cdv S (2 ^ 44)) 60000:=abp_zl9 (Nat.le_trans (zl_cdv S (pow2_pos 44)) hs2) (by omega)
  have o1:=fun x W h => s13out_any R S v (k + 16) 44 x W h (by omega) (by omega) (by omega) hj (by omega)
  have w5:IntKind.i64.wrap ((k:Int) + 16) = ((k + 16:Nat):Int):=by rw [IntKind.wrap_i64];omega
  obtain ⟨M9,hM9⟩:=nm9 (mkM (R / 2 ^ 44) (-((k + 16:Nat):Int)))
  obtain ⟨E9,hE9⟩:=nm9 (mkE (R / 2 ^ 44) (-((k + 16:Nat):Int)))
  obtain ⟨N9,hN9⟩:=nm9 (mkM (cdv S (2 ^ 44)) (-((k + 16:Nat):Int)))
  obtain ⟨F9,hF9⟩:=nm9 (mkE (cdv S (2 ^ 44)) (-((k + 16:Nat):Int)))
  rw [hM9,hE9,hN9,hF9] at o1
  have HG:=Hd9 (show ∃ a b,mkM a (-((k + 16:Nat):Int)) = M9∧mkE a (-((k + 16:Nat):Int)) = E9∧mkM b (-((k + 16:Nat):Int)) = N9∧mkE b (-((k + 16:Nat):Int)) = F9∧AtW (k + 16) a b (dq m e)∧AbP a 60000∧AbP b 60000 from ⟨_,_,hM9,hE9,hN9,hF9,q1,q2,q3⟩)
  have O9:=Hd9 o1
  clear q1 q2 q3 o1 hM9 hE9 hN9 hF9 hj hu hs1 hs2 hv9 hvb hk
  obtain ⟨K16,hK16⟩:=nm9 (k + 16)
  rw [hK16] at O9 w5
  obtain ⟨c00,c01,c02,c03⟩:=L.b0.a4
  obtain ⟨f00,f01,f02,f03⟩:=L.b0.f4
  have P:=L.putS (by omega) (by first | (simp;done) | (simp;omega)) (ng R) A3 (zl R) c3 (ng S) B3 (zl S) d3
  obtain ⟨p00,p01,p02,p03⟩:=P.b0.a4
  obtain ⟨p30,p31,p32⟩:=P.tl.tl.tl.b0.a3
  unfold put4 at P p00 p01 p02 p03 p30 p31 p32
  go_wp2_with fail
  replace L:=P
  clear P p00 p01 p02 p03 p30 p31 p32
  clear c00 f00 c01 f01 c02 f02 c03 f03
  replace L:=L.subx (ns':=[(.slice A3 (zl R) c3,(R).natAbs),(.slice B3 (zl S) d3,(S).natAbs)]) (bs':=[(gz,53,#[.bool (ng R),.slice A3 (zl R) c3,.bool (ng S),.slice B3 (zl S) d3]),(w.heap.size + 1,28,#[.bool false,.slice none 0 0,.int .i64 0,.bool false,.slice none 0 0,.int .i64 0])]) (by simp) (by simp)
  refine (O9.out _ _ (isS_n (a:=R) (b:=S) (s:=.slice A3 (zl R) c3) (t:=.slice B3 (zl S) d3) (L.getN (by simp)) (L.getN (by simp)))).mono ?_
  rintro e w4 ⟨vv,rfl,ii,be⟩
  obtain ⟨A6,c6,B6,d6,rfl,ia,ib⟩:=ii.form
  replace L:=(((L.step be).n ib).n ia).swap
  clear be ii ia ib
  obtain ⟨c00,c01,c02,c03,c04,c05⟩:=L.b0.a6
  obtain ⟨f00,f01,f02,f03,f04,f05⟩:=L.b0.f6
  go_wp2_with fail
  have LP:=L.putI (by omega) (by first | (simp;done) | (simp;omega)) (ng M9) A6 (zl M9) c6 E9 (ng N9) B6 (zl N9) d6 F9
  obtain ⟨k0,k1,k2,k3,k4,k5⟩:=LP.b0.a6
  unfold put6 at k0 k1 k2 k3 k4 k5
  exact bodyPost_ret (v:=.agg #[.bool (ng M9),.slice A6 (zl M9) c6,.int .i64 E9,.bool (ng N9),.slice B6 (zl N9) d6,.int .i64 F9]) (by simp [results,Tryz.results18,go_sem,k0,k1,k2,k3,k4,k5]) rfl (RetAf.mk HG.out ⟨_,rfl,isI_n (LP.getN (by simp)) (LP.getN (by simp)),LP.below⟩)
 ·have hu:=hAW.neg
  rw [← HX.out.1 (of_decide_eq_true hz)] at hu
  have n1:=fun x W h => s13neg_any R S x W h (by omega) (by omega)
  have hs3:zl (-S)≤1800:=by rw [zl_neg];exact hs2
  have hs4:zl (-R)≤1800:=by rw [zl_neg];exact hs1
  clear hs1 hs2
  obtain ⟨R5,hR5⟩:=nm9 (-S)
  obtain ⟨S5,hS5⟩:=nm9 (-R)
  rw [hR5] at n1 hs3 hu
  rw [hS5] at n1 hs4 hu
  have hs1:=hs3
  have hs2:=hs4
  have N1:=Hd9 n1
  clear n1 hs3 hs4 hR5 hS5 hAW HX hz
  obtain ⟨hv9,hvb,hk⟩:=HV.out
  have hj:v = k + 16 + 44:=by omega
  have q1:=hu.out hj
  have q2:AbP (R5 / 2 ^ 44) 60000:=abp_zl9 (Nat.le_trans (zl_floor R5 (pow2_pos 44)) hs1) (by omega)
  have q3:AbP (cdv S5 (2 ^ 44)) 60000:=abp_zl9 (Nat.le_trans (zl_cdv S5 (pow2_pos 44)) hs2) (by omega)
  have o1:=fun x W h => s13out_any R5 S5 v (k + 16) 44 x W h (by omega) (by omega) (by omega) hj (by omega)
  have w5:IntKind.i64.wrap ((k:Int) + 16) = ((k + 16:Nat):Int):=by rw [IntKind.wrap_i64];omega
  obtain ⟨M9,hM9⟩:=nm9 (mkM (R5 / 2 ^ 44) (-((k + 16:Nat):Int)))
  obtain ⟨E9,hE9⟩:=nm9 (mkE (R5 / 2 ^ 44) (-((k + 16:Nat):Int)))
  obtain ⟨N9,hN9⟩:=nm9 (mkM (cdv S5 (2 ^ 44)) (-((k + 16:Nat):Int)))
  obtain ⟨F9,hF9⟩:=nm9 (mkE (cdv S5 (2 ^ 44)) (-((k + 16:Nat):Int)))
  rw [hM9,hE9,hN9,hF9] at o1
  have HG:=Hd9 (show ∃ a b,mkM a (-((k + 16:Nat):Int)) = M9∧mkE a (-((k + 16:Nat):Int)) = E9∧mkM b (-((k + 16:Nat):Int)) = N9∧mkE b (-((k + 16:Nat):Int)) = F9∧AtW (k + 16) a b (dq m e)∧AbP a 60000∧AbP b 60000 from ⟨_,_,hM9,hE9,hN9,hF9,q1,q2,q3⟩)
  have O9:=Hd9 o1
  clear q1 q2 q3 o1 hM9 hE9 hN9 hF9 hj hu hs1 hs2 hv9 hvb hk
  obtain ⟨K16,hK16⟩:=nm9 (k + 16)
  rw [hK16] at O9 w5
  obtain ⟨c00,c01,c02,c03⟩:=L.b0.a4
  obtain ⟨f00,f01,f02,f03⟩:=L.b0.f4
  have P:=L.putS (by omega) (by first | (simp;done) | (simp;omega)) (ng R) A3 (zl R) c3 (ng S) B3 (zl S) d3
  obtain ⟨p00,p01,p02,p03⟩:=P.b0.a4
  obtain ⟨p30,p31,p32⟩:=P.tl.tl.tl.b0.a3
  unfold put4 at P p00 p01 p02 p03 p30 p31 p32
  go_wp2_with fail
  replace L:=P
  clear P p00 p01 p02 p03 p30 p31 p32
  clear c00 f00 c01 f01 c02 f02 c03 f03
  refine (N1.out _ _ (isS_n (a:=R) (b:=S) (s:=.slice A3 (zl R) c3) (t:=.slice B3 (zl S) d3) (L.getN (by simp)) (L.getN (by simp)))).mono ?_
  rintro e w4 ⟨vv,rfl,iq,be⟩
  obtain ⟨A4,c4,B4,d4,rfl,ia,ib⟩:=iq.form
  replace L:=((L.step be).n ib).n ia
  clear be iq ia ib
  obtain ⟨c00,c01,c02,c03⟩:=L.b0.a4
  obtain ⟨f00,f01,f02,f03⟩:=L.b0.f4
  have P:=L.putS (by omega) (by first | (simp;done) | (simp;omega)) (ng R5) A4 (zl R5) c4 (ng S5) B4 (zl S5) d4
  obtain ⟨p00,p01,p02,p03⟩:=P.b0.a4
  unfold put4 at P p00 p01 p02 p03
  go_wp2_with fail
  replace L:=P
  clear P p00 p01 p02 p03
  clear c00 f00 c01 f01 c02 f02 c03 f03
  replace L:=L.subx (ns':=[(.slice A4 (zl R5) c4,(R5).natAbs),(.slice B4 (zl S5) d4,(S5).natAbs)]) (bs':=[(gz,53,#[.bool (ng R5),.slice A4 (zl R5) c4,.bool (ng S5),.slice B4 (zl S5) d4]),(w.heap.size + 1,28,#[.bool false,.slice none 0 0,.int .i64 0,.bool false,.slice none 0 0,.int .i64 0])]) (by simp) (by simp)
  refine (O9.out _ _ (isS_n (a:=R5) (b:=S5) (s:=.slice A4 (zl R5) c4) (t:=.slice B4 (zl S5) d4) (L.getN (by simp)) (L.getN (by simp)))).mono ?_
  rintro e w5 ⟨vv,rfl,ii,be⟩
  obtain ⟨A6,c6,B6,d6,rfl,ia,ib⟩:=ii.form
  replace L:=(((L.step be).n ib).n ia).swap
  clear be ii ia ib
  obtain ⟨c00,c01,c02,c03,c04,c05⟩:=L.b0.a6
  obtain ⟨f00,f01,f02,f03,f04,f05⟩:=L.b0.f6
  go_wp2_with fail
  have LP:=L.putI (by omega) (by first | (simp;done) | (simp;omega)) (ng M9) A6 (zl M9) c6 E9 (ng N9) B6 (zl N9) d6 F9
  obtain ⟨k0,k1,k2,k3,k4,k5⟩:=LP.b0.a6
  unfold put6 at k0 k1 k2 k3 k4 k5
  exact bodyPost_ret (v:=.agg #[.bool (ng M9),.slice A6 (zl M9) c6,.int .i64 E9,.bool (ng N9),.slice B6 (zl N9) d6,.int .i64 F9]) (by simp [results,Tryz.results18,go_sem,k0,k1,k2,k3,k4,k5]) rfl (RetAf.mk HG.out ⟨_,rfl,isI_n (LP.getN (by simp)) (LP.getN (by simp)),LP.below⟩)
theorem s16at_big (m e:Int) (k:Nat) (vx:Value) (w:World) (hx:IsD w vx m e) (lm:zl m≤100) (he:-9000≤e∧e≤4000) (hk:k≤130) (hq1:1 < dq (m.natAbs:Int) e) :
  Calls Tryz.prog 18 #[vx,.int .i64 (k:Int)] w (RetAf w (dq m e) (k + 16)):=by
 obtain ⟨A,c,rfl,_,hn⟩:=hx.form
 have L0:=(Lq.mk0 w).n hn
 obtain ⟨v,hv9⟩:∃ v:Nat,(k:Int) + 60 = (v:Int):=⟨k + 60,by omega⟩
 have hvb:60≤v∧v < 200:=by omega
 have w0:IntKind.i64.wrap ((k:Int) + 60) = (v:Int):=by rw [IntKind.wrap_i64];omega
 obtain ⟨hq0,hqn,hqp⟩:=abs_q m e
 have lM:zl (m.natAbs:Int)≤100:=lm
 have g1:=fun x W h => rznn_any m.natAbs x W h (show len m.natAbs≤1000000 from Nat.le_trans lm (by omega))
 obtain ⟨M,hM⟩:∃ z:Int,(m.natAbs:Int) = z:=⟨_,rfl⟩
 have nM:M.natAbs = m.natAbs:=by omega
 rw [hM] at g1 hq0 hqn hqp lM hq1
 have g2:=fun W => rof8_any 1 W (by omega) (by omega)
 rw [show mkM 1 0 = 1 by decide +kernel,show mkE 1 0 = 0 by decide +kernel] at g2
 have z1:zl 1≤1:=len_le1 (by omega)
 have g3:=fun x y W h j => rcmp8_any M e 1 0 x y W h j (by omega) (by omega) (by omega) (by omega)
 rw [show cmpI (M * 2 ^ (e - min e 0).toNat) (1 * 2 ^ (0 - min e 0).toNat) = dcm M e 1 0 from rfl] at g3
 have e10:dq 1 0 = 1:=by decide +kernel
 have hc:=dcm_le M e 1 0
 rw [e10] at hc
 generalize dcm M e 1 0 = cm at g3 hc
 have d9:decide (0 < cm) = true:=decide_eq_true (Int.not_le.1 fun h => Rat.not_le.2 hq1 (hc.1 h))
 clear hc e10 z1
 have g4:=fun x W h => rtop_any M e x W h (by omega) (by omega)
 have hTu:topZ M e≤4000 + 32 * 100:=by
  unfold topZ
  split
  ·omega
  ·have:=blen_le_len M.natAbs
   have:len M.natAbs≤100:=lM
   omega
 obtain ⟨T,hT⟩:=nm9 (topZ M e)
 rw [hT] at g4 hTu
 obtain ⟨n,hn9⟩:∃ n:Nat,max 0 T = (n:Int):=⟨(max 0 T).toNat,by omega⟩
 have hnb:n≤7200:=by omega
 have w1:IntKind.i64.wrap ((v:Int) + (n:Int)) = ((v + n:Nat):Int):=by rw [IntKind.wrap_i64];omega
 have w2:IntKind.i64.wrap (((v + n:Nat):Int) - (v:Int)) = (n:Int):=by rw [IntKind.wrap_i64];omega
 have g5:=fun W => s13of_any 1 v W (by omega) (by omega) (by omega)
 rw [Int.one_mul] at g5
 have g6:=fun x W h => s13at_any M e (v + n) x W h (by omega) (by omega) (by omega)
 have z2:=zl_cutD M e ((v + n:Nat):Int)
 have z3:=zl_cutN M e ((v + n:Nat):Int)
 obtain ⟨hc0,hsp⟩:=cut_big (q:=dq M e) (Rat.le_of_lt hq1) v n
 have g7:=fun x W h => s16shrink_any (cutQ (dq M e) ((v + n:Nat):Int)) (-(cutQ (-(dq M e)) ((v + n:Nat):Int))) n x W h (by omega) (by omega) (by omega)
 have hpn:=pow2_pos n
 have z4:=zl_floor (cutQ (dq M e) ((v + n:Nat):Int)) hpn
 have z5:=zl_cdv (-(cutQ (-(dq M e)) ((v + n:Nat):Int))) hpn
 have hcd:=hsp.le
 have hpv:=pow2_pos v
 have zP:zl (2 ^ v)≤20:=by
  have:=zl_shl32 1 v
  have z1:zl 1≤1:=len_le1 (by omega)
  rw [Int.one_mul] at this
  omega
 obtain ⟨C,hC⟩:=nm9 (cutQ (dq M e) ((v + n:Nat):Int))
 obtain ⟨D,hD⟩:=nm9 (-(cutQ (-(dq M e)) ((v + n:Nat):Int)))
 rw [hC,hD] at g6 g7
 rw [hC] at z2 z4 hc0 hsp hcd
 rw [hD] at z3 z5 hsp hcd
 obtain ⟨c0,hc9⟩:=nm9 (C / 2 ^ n)
 obtain ⟨d0,hd9⟩:=nm9 (cdv D (2 ^ n))
 rw [hc9,hd9] at g7 hsp hcd
 rw [hc9] at z4 hc0
 rw [hd9] at z5
 have g8:=fun x y W h j => s13div_any (2 ^ v) (2 ^ v) c0 d0 v x y W h j (by omega) (by omega) (by omega) (by omega) (by omega) (by omega) (by omega) (by omega)
 obtain ⟨i1,i2,i3⟩:=inv_span hc0 hcd
 have hrs:=(SpC.of 1 v).div hsp (by omega)
 rw [Int.one_mul,show ((1:Int):Rat) = 1 from rfl,Rat.div_def,Rat.one_mul] at hrs
 obtain ⟨r0,hr0⟩:=nm9 (mn4 (2 ^ v * 2 ^ v / c0) (cdv (2 ^ v * 2 ^ v) c0) (2 ^ v * 2 ^ v / d0) (cdv (2 ^ v * 2 ^ v) d0))
 obtain ⟨r1,hr1⟩:=nm9 (mx4 (2 ^ v * 2 ^ v / c0) (cdv (2 ^ v * 2 ^ v) c0) (2 ^ v * 2 ^ v / d0) (cdv (2 ^ v * 2 ^ v) d0))
 rw [hr0] at g8 i1 i2 hrs
 rw [hr1] at g8 i2 i3 hrs
 have g9:=fun x W h => s16inner_any r0 r1 v x W h i1 i2 i3 hvb
 have hqp0:0 < dq M e:=by
  have:(0:Rat) < 1:=by decide +kernel
  grind
 have HIN:Hid (∀ s t,InU v r0 r1 s t → AtW v (piL v / 2 + -t) (cdv (piH v) 2 + -s) (dq M e)):=Hd9 (fun s t h => by
  obtain ⟨x1,x2⟩:=h _ hrs (Rat.le_of_lt (Rat.inv_pos.2 hqp0))
  exact at_recip (by omega) hqp0 x1 x2)
 have g10:=fun W => s13pi_any v W (by omega)
 obtain ⟨P,hP⟩:=nm9 ((2:Int) ^ v)
 rw [hP] at g5 g8
 obtain ⟨u9,hu9⟩:=nm9 (v + n)
 rw [hu9] at w1 w2 g6
 clear hu9 hP hr0 hr1 hrs i1 i2 i3 hc9 hd9 hC hD z2 z3 z4 z5 zP hpv hcd hpn hc0 hsp hT hTu hqp0 hnb
 have G1:=Hd9 g1
 have G2:=Hd9 g2
 have G3:=Hd9 g3
 have G4:=Hd9 g4
 have G5:=Hd9 g5
 have G6:=Hd9 g6
 have G7:=Hd9 g7
 have G8:=Hd9 g8
 have G9:=Hd9 g9
 have G10:=Hd9 g10
 clear g1 g2 g3 g4 g5 g6 g7 g8 g9 g10
 have HV:=Hd9 (And.intro hv9 (And.intro hvb hk))
 have HX:=Hd9 (And.intro hqn hqp)
 have HM:=Hd9 (And.intro hM nM)
 have in9:=hn
 rw [← nM] at in9
 have L0:=L0.n in9
 clear hx hn lm lM he hk hv9 hvb hq0 hqn hqp hM nM hq1 in9
 go_enter Tryz.func18,Tryz.ntmps18
 have L:=((L0.varD (w.heap.size) (by simp) (ng m) A (zl m) c e).varI (w.heap.size + 1) (by simp) false none 0 0 0 false none 0 0 0)
 obtain ⟨c10,c11,c12⟩:=L.tl.b0.a3
 (try go_wp2_with fail)
 replace L:=L.varD (w.heap.size + 1 + 1) (by simp) (ng m) A (zl m) c e
 clear c10 c11 c12
 obtain ⟨V0,hV,L9⟩:=L.name
 rw [hV]
 clear hV L
 have L:=L9
 clear L9
 refine (G1.out _ _ (L.getN (v:=.slice A (zl m) c) (x:=m.natAbs) (by simp))).mono ?_
 rintro e w1 ⟨vz,rfl,iz,be⟩
 obtain ⟨A1,c1,rfl,in9⟩:=iz.form
 replace L:=(L.step be).n in9
 clear be iz in9
 have hl9:=L.b0.lt
 obtain ⟨c00,c01,c02⟩:=L.b0.a3
 obtain ⟨f00,f01,f02⟩:=L.b0.f3
 have P:Lq w _ _ _ _ (((w.heap.size + 1 + 1,26,#[.bool (ng M),.slice A1 (zl M) c1,.int .i64 e]) :: _)):=(L.set (by omega) (by first | (simp;done) | (simp;omega)) 0 (.bool (ng M)) (by intro x e;cases e)).set (by omega) (by first | (simp;done) | (simp;omega)) 1 (.slice A1 (zl M) c1) (by intro x e;cases e)
 obtain ⟨p0,p1,p2⟩:=P.b0.a3
 go_wp2_with fail
 have L9:=P.varS w1.heap.size (by simp) false none 0 0 false none 0 0
 clear P p0 p1 p2
 clear c00 f00 c01 f01 c02 f02
 clear L
 have L:=L9
 clear L9
 obtain ⟨gz,hgz⟩:=nm9 (w1.heap.size)
 rw [hgz] at L hl9 ⊢
 clear hgz
 replace L:=L.drew
 obtain ⟨c10,c11,c12⟩:=L.tl.b0.a3
 go_region_held3 (fun w' => w'.cell? ⟨w.heap.size + 1 + 1,0,none⟩ = some (.bool (ng M))∧w'.cell? ⟨w.heap.size + 1 + 1,1,none⟩ = some (.slice A1 (zl M) c1)∧w'.cell? ⟨w.heap.size + 1 + 1,2,none⟩ = some (.int .i64 e)) (first | (with_reducible exact ⟨L.tl.b0.c30,L.tl.b0.c31,L.tl.b0.c32⟩) | exact ⟨L.tl.b0.c30,L.tl.b0.c31,L.tl.b0.c32⟩) (first | (go_at_call 25;(with_reducible refine (G2.out _ ).mono ?_);rintro e wh ⟨vh,rfl,id,be⟩;obtain ⟨A0,c0,rfl,_,in9⟩:=id.form;replace L:=(L.step be).n in9;clear be id in9) | (go_at_call 53;(with_reducible refine (G3.out _ _ _ ?_ ?_ ).mono ?_);(· (refine isD_n (L.getN ?_);(repeat (first | (with_reducible exact mS) | apply mT))));(· (refine isD_n (L.getN ?_);(repeat (first | (with_reducible exact mS) | apply mT))));rintro e wh ⟨rfl,be⟩;replace L:=L.step be;clear be))
 clear c10 c11 c12
 have hvg:w.heap.size + 1 + 1 < gz:=hl9
 clear hl9
 obtain ⟨c10,c11,c12⟩:=L.tl.b0.a3
 (try go_wp2_with fail)
 refine (G4.out _ _ (isD_n (m:=M) (e:=e) (s:=.slice A1 (zl M) c1) (L.getN (by simp)))).mono ?_
 rintro e w2 ⟨rfl,be⟩
 clear c10 c11 c12
 replace L:=L.step be
 clear be
 go_upto_region 7 with fail
 obtain ⟨V,hV,L9⟩:=L.name
 rw [hV]
 clear hV L
 have L:=L9
 clear L9
 have Q0:=Hd9 (fun Z (hZ:Below V.heap.size V Z) => (L.tl.b0.mono hZ).c30)
 have Q1:=Hd9 (fun Z (hZ:Below V.heap.size V Z) => (L.tl.b0.mono hZ).c31)
 have Q2:=Hd9 (fun Z (hZ:Below V.heap.size V Z) => (L.tl.b0.mono hZ).c32)
 have hb0:=L.tl.b0.lt
 have D0:Dq V V [(.slice A1 (zl M) c1,(M:Int).natAbs)] [] [] []:=⟨((Lq.mk0 V).n (L.getN (v:=.slice A1 (zl M) c1) (x:=(M:Int).natAbs) (by simp))),List.nodup_nil,fun p hp => by cases hp⟩
 have D:=D0.drew
 have hVw:=L.below.size
 have LL:=Hd9 L
 clear L
 obtain ⟨K,hK⟩:=nm9 (V.heap.size)
 have hz0:K≤V.heap.size:=by omega
 have hc0:w.heap.size + 1 + 1 < K:=by omega
 go_cut [9] from 27 to 38 (fun s9 wx => Made1S V r0 r1 s9 wx)
 case first =>
  go_region_held3 (fun w' => w'.cell? ⟨w.heap.size + 1 + 1,0,none⟩ = some (.bool (ng M))∧w'.cell? ⟨w.heap.size + 1 + 1,1,none⟩ = some (.slice A1 (zl M) c1)∧w'.cell? ⟨w.heap.size + 1 + 1,2,none⟩ = some (.int .i64 e)) (((try dsimp only);refine keep3 Q0.out Q1.out Q2.out ?_;(repeat (first | (with_reducible exact D.lq.below) | (with_reducible exact D0.lq.below) | (with_reducible refine Below.drew ?_) | (with_reducible refine bl_alloc _ ?_) | (with_reducible refine bl_set _ ?_ (by omega)))))) (first | (go_at_call 68;((with_reducible apply calls_sync2);(repeat (first | (with_reducible exact D) | (with_reducible exact D0) | (with_reducible apply Dq.drew) | (with_reducible apply Dq.boxS)));intro D2;replace D:=D2;clear D2;(try simp only [alloc_sz15,drew_sz15,hK] at D));(with_reducible refine (G5.out _).mono ?_);rintro e9 wh ⟨vh,rfl,iq,be⟩;obtain ⟨A3,c3,B3,d3,rfl,ia,ib⟩:=iq.form;have hs9:=be.size;(try simp only [alloc_sz15,drew_sz15,hK] at hs9);replace D:=((D.step be).n ib).n ia;clear iq ia ib be;(try (have vb:Var _ _ 53 _:=D.lq.b0;obtain ⟨q01,q02,q03,q04⟩:=vb.a4;obtain ⟨q05,q06,q07,q08⟩:=vb.f4;have q09:=vb.lt;clear vb))) | (go_at_call 54;((with_reducible apply calls_sync2);(repeat (first | (with_reducible exact D) | (with_reducible exact D0) | (with_reducible apply Dq.drew) | (with_reducible apply Dq.boxS)));intro D2;replace D:=D2;clear D2;(try simp only [alloc_sz15,drew_sz15,hK] at D));(with_reducible refine (G6.out _ _ ?_).mono ?_);(· ((with_reducible refine isD_n (D.getN ?_)) <;> (repeat (first | (with_reducible exact mS) | apply mT));done));rintro e9 wh ⟨vh,rfl,iq,be⟩;obtain ⟨A4,c4,B4,d4,rfl,ia,ib⟩:=iq.form;have hs9:=be.size;(try simp only [alloc_sz15,drew_sz15,hK] at hs9);replace D:=((D.step be).n ib).n ia;clear iq ia ib be;(try (have vb:Var _ _ 53 _:=D.lq.b0;obtain ⟨q01,q02,q03,q04⟩:=vb.a4;obtain ⟨q05,q06,q07,q08⟩:=vb.f4;have q09:=vb.lt;clear vb))) | (go_at_call 69;((with_reducible apply calls_sync2);(repeat (first | (with_reducible exact D) | (with_reducible exact D0) | (with_reducible apply Dq.drew) | (with_reducible apply Dq.boxS)));intro D2;replace D:=D2;clear D2;(try simp only [alloc_sz15,drew_sz15,hK] at D));(with_reducible refine (G7.out _ _ ?_).mono ?_);(· ((with_reducible refine isS_n (D.getN ?_) (D.getN ?_)) <;> (repeat (first | (with_reducible exact mS) | apply mT));done));rintro e9 wh ⟨vh,rfl,iq,be⟩;obtain ⟨A5,c5,B5,d5,rfl,ia,ib⟩:=iq.form;have hs9:=be.size;(try simp only [alloc_sz15,drew_sz15,hK] at hs9);replace D:=((D.step be).n ib).n ia;clear iq ia ib be;(try (have vb:Var _ _ 53 _:=D.lq.b0;obtain ⟨q01,q02,q03,q04⟩:=vb.a4;obtain ⟨q05,q06,q07,q08⟩:=vb.f4;have q09:=vb.lt;clear vb))) | (go_at_call 67;((with_reducible apply calls_sync2);(repeat (first | (with_reducible exact D) | (with_reducible exact D0) | (with_reducible apply Dq.drew) | (with_reducible apply Dq.boxS)));intro D2;replace D:=D2;clear D2;(try simp only [alloc_sz15,drew_sz15,hK] at D));(with_reducible refine (G8.out _ _ _ ?_ ?_).mono ?_);(· ((with_reducible refine isS_n (D.getN ?_) (D.getN ?_)) <;> (repeat (first | (with_reducible exact mS) | apply mT));done));(· ((with_reducible refine isS_n (D.getN ?_) (D.getN ?_)) <;> (repeat (first | (with_reducible exact mS) | apply mT));done));rintro e9 wh ⟨vh,rfl,iq,be⟩;obtain ⟨A6,c6,B6,d6,rfl,ia,ib⟩:=iq.form;have hs9:=be.size;(try simp only [alloc_sz15,drew_sz15,hK] at hs9);replace D:=((D.step be).n ib).n ia;clear iq ia ib be;(try (have vb:Var _ _ 53 _:=D.lq.b0;obtain ⟨q01,q02,q03,q04⟩:=vb.a4;obtain ⟨q05,q06,q07,q08⟩:=vb.f4;have q09:=vb.lt;clear vb))))
  all_goals
   go_wp2_with fail
   go_meet
   first
   | ((with_reducible refine made1s_a D ?_ ?_) <;> (repeat (first | (with_reducible exact mS) | apply mT)))
   | ((with_reducible refine made1s_b D ?_ ?_) <;> (repeat (first | (with_reducible exact mS) | apply mT)))
 case rest =>
  obtain ⟨gr,AZ,cZ,BZ,dZ,rfl,hgr,bw,hv1,iq1,iq2⟩:=hcut
  have hgzl:=LL.out.b0.lt
  have L9:=(((LL.out.step bw).n iq2).n iq1).b hv1
  have L:=L9.subx (ns':=[(.slice AZ (zl r0) cZ,r0.natAbs),(.slice BZ (zl r1) dZ,r1.natAbs),(.slice A (zl m) c,m.natAbs)]) (bs':=[(gz,53,#[.bool false,.slice none 0 0,.bool false,.slice none 0 0]),(gr,53,#[.bool (ng r0),.slice AZ (zl r0) cZ,.bool (ng r1),.slice BZ (zl r1) dZ]),(w.heap.size + 1,28,#[.bool false,.slice none 0 0,.int .i64 0,.bool false,.slice none 0 0,.int .i64 0]),(w.heap.size,26,#[.bool (ng m),.slice A (zl m) c,.int .i64 e])]) (by simp) (by simp)
  clear D D0 LL L9 hv1 iq1 iq2 bw hVw hz0 hK hc0 Q0 Q1 Q2 G1 G2 G3 G4 G5 G6 G7 G8
  have hzr:gz < gr:=by omega
  generalize wc = wd1 at *
  have hvb:=HV.out.2.1
  obtain ⟨y1,y2⟩:=pi_size9 (v:=v) (by omega)
  have o11:=fun x W h => s13over_any (piL v) (piH v) 2 x W h (by omega) (by omega) (pi_le9 hvb.2) (by omega) (by omega)
  have y3:=zl_floor (piL v) (n:=2) (by omega)
  have y4:=zl_cdv (piH v) (n:=2) (by omega)
  obtain ⟨P0,hP0⟩:=nm9 (piL v / 2)
  obtain ⟨P1,hP1⟩:=nm9 (cdv (piH v) 2)
  rw [hP0] at o11 y3 HIN
  rw [hP1] at o11 y4 HIN
  have o12:=fun (s t:Int) (hs:AbP s (2 * v + 8)) (ht:AbP t (2 * v + 8)) x y W h j => s13sub_any P0 P1 s t x y W h j (by omega) (by omega) (by have:=hs.zl;omega) (by have:=ht.zl;omega)
  have HY:=Hd9 (And.intro (Nat.le_trans y3 y1) (Nat.le_trans y4 y2))
  obtain ⟨p0,hp0⟩:=nm9 (piL v)
  obtain ⟨p1,hp1⟩:=nm9 (piH v)
  rw [hp0,hp1] at o11 G10
  have G11:=Hd9 o11
  have G12:=Hd9 o12
  clear o11 o12 y1 y2 y3 y4 hP0 hP1 hp0 hp1 hvb
  replace L:=L.drew
  (try go_wp2_with fail)
  have LD:=L
  clear L
  obtain ⟨c00,c01,c02,c03⟩:=LD.b0.a4
  obtain ⟨f00,f01,f02,f03⟩:=LD.b0.f4
  obtain ⟨c10,c11,c12,c13⟩:=LD.tl.b0.a4
  go_cut [45] from 38 to 45 (fun s9 wx => ∃ (R S:Int) (A3 B3:Option Addr) (c3 d3:Nat),Lq w wx [(.slice A3 (zl R) c3,R.natAbs),(.slice B3 (zl S) d3,S.natAbs)] [] [] [(gz,53,#[.bool (ng R),.slice A3 (zl R) c3,.bool (ng S),.slice B3 (zl S) d3]),(w.heap.size + 1,28,#[.bool false,.slice none 0 0,.int .i64 0,.bool false,.slice none 0 0,.int .i64 0]),(w.heap.size,26,#[.bool (ng m),.slice A (zl m) c,.int .i64 e])]∧AtW v R S (dq M e)∧zl R≤1800∧zl S≤1800)
  case first =>
   go_region_with (first | (go_at_call 28;(with_reducible refine (G10.out _).mono ?_);rintro e9 wh ⟨vh,rfl,iq,be⟩;obtain ⟨A5,c5,B5,d5,rfl,ia,ib⟩:=iq.form;replace LD:=((LD.step be).n ib).n ia;clear be iq ia ib;(try (have r0:=LD.b0.c40;have t0:=LD.b0.fr 0;have x0:=LD.tl.b0.c40;have r1:=LD.b0.c41;have t1:=LD.b0.fr 1;have x1:=LD.tl.b0.c41;have r2:=LD.b0.c42;have t2:=LD.b0.fr 2;have x2:=LD.tl.b0.c42;have r3:=LD.b0.c43;have t3:=LD.b0.fr 3;have x3:=LD.tl.b0.c43))) | (go_at_call 27;(with_reducible refine (G11.out _ _ ?_).mono ?_);(· (refine isS_n (LD.getN ?_) (LD.getN ?_) <;> (repeat (first | (with_reducible exact mS) | apply mT))));rintro e9 wh ⟨vh,rfl,iq,be⟩;obtain ⟨A6,c6,B6,d6,rfl,ia,ib⟩:=iq.form;replace LD:=((LD.step be).n ib).n ia;clear be iq ia ib;(try (have r0:=LD.b0.c40;have t0:=LD.b0.fr 0;have x0:=LD.tl.b0.c40;have r1:=LD.b0.c41;have t1:=LD.b0.fr 1;have x1:=LD.tl.b0.c41;have r2:=LD.b0.c42;have t2:=LD.b0.fr 2;have x2:=LD.tl.b0.c42;have r3:=LD.b0.c43;have t3:=LD.b0.fr 3;have x3:=LD.tl.b0.c43))) | (go_at_call 70;(with_reducible refine (G9.out _ _ ?_).mono ?_);(· (refine isS_n (LD.getN ?_) (LD.getN ?_) <;> (repeat (first | (with_reducible exact mS) | apply mT))));rintro e9 wh ⟨S,T,⟨vh,rfl,iq,be⟩,hIn,sS,sT⟩;obtain ⟨A7,c7,B7,d7,rfl,ia,ib⟩:=iq.form;replace LD:=((LD.step be).n ib).n ia;clear be iq ia ib;(try (have r0:=LD.b0.c40;have t0:=LD.b0.fr 0;have x0:=LD.tl.b0.c40;have r1:=LD.b0.c41;have t1:=LD.b0.fr 1;have x1:=LD.tl.b0.c41;have r2:=LD.b0.c42;have t2:=LD.b0.fr 2;have x2:=LD.tl.b0.c42;have r3:=LD.b0.c43;have t3:=LD.b0.fr 3;have x3:=LD.tl.b0.c43))) | (go_at_call 55;(with_reducible refine (G12.out S T sS sT _ _ _ ?_ ?_).mono ?_);(· (refine isS_n (LD.getN ?_) (LD.getN ?_) <;> (repeat (first | (with_reducible exact mS) | apply mT))));(· (refine isS_n (LD.getN ?_) (LD.getN ?_) <;> (repeat (first | (with_reducible exact mS) | apply mT))));rintro e9 wh ⟨vh,rfl,iq,be⟩;obtain ⟨A8,c8,B8,d8,rfl,ia,ib⟩:=iq.form;replace LD:=((LD.step be).n ib).n ia;clear be iq ia ib;(try (have r0:=LD.b0.c40;have t0:=LD.b0.fr 0;have x0:=LD.tl.b0.c40;have r1:=LD.b0.c41;have t1:=LD.b0.fr 1;have x1:=LD.tl.b0.c41;have r2:=LD.b0.c42;have t2:=LD.b0.fr 2;have x2:=LD.tl.b0.c42;have r3:=LD.b0.c43;have t3:=LD.b0.fr 3;have x3:=LD.tl.b0.c43))))
   all_goals
    have hAW:=HIN.out _ _ hIn
    obtain ⟨y3,y4⟩:=HY.out
    have hvb:=HV.out.2.1
    have zs:=sS.zl
    have zt:=sT.zl
    have e1:=zl_add P0 (-T)
    have e2:=zl_add P1 (-S)
    have e3:=zl_neg S
    have e4:=zl_neg T
    have LP:=LD.putS (by omega) (by first | (simp;done) | (simp;omega)) (ng (P0 + -T)) A8 (zl (P0 + -T)) c8 (ng (P1 + -S)) B8 (zl (P1 + -S)) d8
    unfold put4 at LP
    go_wp2_with fail
    go_meet
    exact ⟨P0 + -T,P1 + -S,A8,B8,c8,d8,LP.subx (by simp) (by simp),hAW,by omega,by omega⟩
  case rest =>
   obtain ⟨R,S,A3,B3,c3,d3,L,hAW,hs1,hs2⟩:=hcut
   generalize wc = wd2 at *
   clear LD G9 G10 G11 G12 HY HIN
   generalize hz:ng m = z at *
   cases z
   ·have hu:=hAW
    rw [← HX.out.2 (Int.not_lt.1 (of_decide_eq_false hz))] at hu
    clear hAW HX hz
    obtain ⟨hv9,hvb,hk⟩:=HV.out
    have hj:v = k + 16 + 44:=by omega
    have q1:=hu.out hj
    have q2:AbP (R / 2 ^ 44) 60000:=abp_zl9 (Nat.le_trans (zl_floor R (pow2_pos 44)) hs1) (by omega)
    have q3:AbP (cdv S (2 ^ 44)) 60000:=abp_zl9 (Nat.le_trans (zl_cdv S (pow2_pos 44)) hs2) (by omega)
    have o1:=fun x W h => s13out_any R S v (k + 16) 44 x W h (by omega) (by omega) (by omega) hj (by omega)
    have w5:IntKind.i64.wrap ((k:Int) + 16) = ((k + 16:Nat):Int):=by rw [IntKind.wrap_i64];omega
    obtain ⟨M9,hM9⟩:=nm9 (mkM (R / 2 ^ 44) (-((k + 16:Nat):Int)))
    obtain ⟨E9,hE9⟩:=nm9 (mkE (R / 2 ^ 44) (-((k + 16:Nat):Int)))
    obtain ⟨N9,hN9⟩:=nm9 (mkM (cdv S (2 ^ 44)) (-((k + 16:Nat):Int)))
    obtain ⟨F9,hF9⟩:=nm9 (mkE (cdv S (2 ^ 44)) (-((k + 16:Nat):Int)))
    rw [hM9,hE9,hN9,hF9] at o1
    have HG:=Hd9 (show ∃ a b,mkM a (-((k + 16:Nat):Int)) = M9∧mkE a (-((k + 16:Nat):Int)) = E9∧mkM b (-((k + 16:Nat):Int)) = N9∧mkE b (-((k + 16:Nat):Int)) = F9∧AtW (k + 16) a b (dq m e)∧AbP a 60000∧AbP b 60000 from ⟨_,_,hM9,hE9,hN9,hF9,q1,q2,q3⟩)
    have O9:=Hd9 o1
    clear q1 q2 q3 o1 hM9 hE9 hN9 hF9 hj hu hs1 hs2 hv9 hvb hk
    obtain ⟨K16,hK16⟩:=nm9 (k + 16)
    rw [hK16] at O9 w5
    obtain ⟨c00,c01,c02,c03⟩:=L.b0.a4
    obtain ⟨c20,c21,c22⟩:=L.tl.tl.b0.a3
    go_wp2_with fail
    clear c00 c01 c02 c03 c20 c21 c22
    replace L:=L.subx (ns':=[(.slice A3 (zl R) c3,(R).natAbs),(.slice B3 (zl S) d3,(S).natAbs)]) (bs':=[(gz,53,#[.bool (ng R),.slice A3 (zl R) c3,.bool (ng S),.slice B3 (zl S) d3]),(w.heap.size + 1,28,#[.bool false,.slice none 0 0,.int .i64 0,.bool false,.slice none 0 0,.int .i64 0])]) (by simp) (by simp)
    refine (O9.out _ _ (isS_n (a:=R) (b:=S) (s:=.slice A3 (zl R) c3) (t:=.slice B3 (zl S) d3) (L.getN (by simp)) (L.getN (by simp)))).mono ?_
    rintro e w3 ⟨vv,rfl,ii,be⟩
    obtain ⟨A6,c6,B6,d6,rfl,ia,ib⟩:=ii.form
    replace L:=(((L.step be).n ib).n ia).swap
    clear be ii ia ib
    obtain ⟨c00,c01,c02,c03,c04,c05⟩:=L.b0.a6
    obtain ⟨f00,f01,f02,f03,f04,f05⟩:=L.b0.f6
    go_wp2_with fail
    have LP:=L.putI (by omega) (by first | (simp;done) | (simp;omega)) (ng M9) A6 (zl M9) c6 E9 (ng N9) B6 (zl N9) d6 F9
    obtain ⟨k0,k1,k2,k3,k4,k5⟩:=LP.b0.a6
    unfold put6 at k0 k1 k2 k3 k4 k5
    exact bodyPost_ret (v:=.agg #[.bool (ng M9),.slice A6 (zl M9) c6,.int .i64 E9,.bool (ng N9),.slice B6 (zl N9) d6,.int .i64 F9]) (by simp [results,Tryz.results18,go_sem,k0,k1,k2,k3,k4,k5]) rfl (RetAf.mk HG.out ⟨_,rfl,isI_n (LP.getN (by simp)) (LP.getN (by simp)),LP.below⟩)
   ·have hu:=hAW.neg
    rw [← HX.out.1 (of_decide_eq_true hz)] at hu
    have n1:=fun x W h => s13neg_any R S x W h (by omega) (by omega)
    have hs3:zl (-S)≤1800:=by rw [zl_neg];exact hs2
    have hs4:zl (-R)≤1800:=by rw [zl_neg];exact hs1
    clear hs1 hs2
    obtain ⟨R5,hR5⟩:=nm9 (-S)
    obtain ⟨S5,hS5⟩:=nm9 (-R)
    rw [hR5] at n1 hs3 hu
    rw [hS5] at n1 hs4 hu
    have hs1:=hs3
    have hs2:=hs4
    have N1:=Hd9 n1
    clear n1 hs3 hs4 hR5 hS5 hAW HX hz
    obtain ⟨hv9,hvb,hk⟩:=HV.out
    have hj:v = k + 16 + 44:=by omega
    have q1:=hu.out hj
    have q2:AbP (R5 / 2 ^ 44) 60000:=abp_zl9 (Nat.le_trans (zl_floor R5 (pow2_pos 44)) hs1) (by omega)
    have q3:AbP (cdv S5 (2 ^ 44)) 60000:=abp_zl9 (Nat.le_trans (zl_cdv S5 (pow2_pos 44)) hs2) (by omega)
    have o1:=fun x W h => s13out_any R5 S5 v (k + 16) 44 x W h (by omega) (by omega) (by omega) hj (by omega)
    have w5:IntKind.i64.wrap ((k:Int) + 16) = ((k + 16:Nat):Int):=by rw [IntKind.wrap_i64];omega
    obtain ⟨M9,hM9⟩:=nm9 (mkM (R5 / 2 ^ 44) (-((k + 16:Nat):Int)))
    obtain ⟨E9,hE9⟩:=nm9 (mkE (R5 / 2 ^ 44) (-((k + 16:Nat):Int)))
    obtain ⟨N9,hN9⟩:=nm9 (mkM (cdv S5 (2 ^ 44)) (-((k + 16:Nat):Int)))
    obtain ⟨F9,hF9⟩:=nm9 (mkE (cdv S5 (2 ^ 44)) (-((k + 16:Nat):Int)))
    rw [hM9,hE9,hN9,hF9] at o1
    have HG:=Hd9 (show ∃ a b,mkM a (-((k + 16:Nat):Int)) = M9∧mkE a (-((k + 16:Nat):Int)) = E9∧mkM b (-((k + 16:Nat):Int)) = N9∧mkE b (-((k + 16:Nat):Int)) = F9∧AtW (k + 16) a b (dq m e)∧AbP a 60000∧AbP b 60000 from ⟨_,_,hM9,hE9,hN9,hF9,q1,q2,q3⟩)
    have O9:=Hd9 o1
    clear q1 q2 q3 o1 hM9 hE9 hN9 hF9 hj hu hs1 hs2 hv9 hvb hk
    obtain ⟨K16,hK16⟩:=nm9 (k + 16)
    rw [hK16] at O9 w5
    obtain ⟨c00,c01,c02,c03⟩:=L.b0.a4
    obtain ⟨c20,c21,c22⟩:=L.tl.tl.b0.a3
    go_wp2_with fail
    clear c00 c01 c02 c03 c20 c21 c22
    refine (N1.out _ _ (isS_n (a:=R) (b:=S) (s:=.slice A3 (zl R) c3) (t:=.slice B3 (zl S) d3) (L.getN (by simp)) (L.getN (by simp)))).mono ?_
    rintro e w3 ⟨vv,rfl,iq,be⟩
    obtain ⟨A4,c4,B4,d4,rfl,ia,ib⟩:=iq.form
    replace L:=((L.step be).n ib).n ia
    clear be iq ia ib
    obtain ⟨c00,c01,c02,c03⟩:=L.b0.a4
    obtain ⟨f00,f01,f02,f03⟩:=L.b0.f4
    have P:=L.putS (by omega) (by first | (simp;done) | (simp;omega)) (ng R5) A4 (zl R5) c4 (ng S5) B4 (zl S5) d4
    obtain ⟨p00,p01,p02,p03⟩:=P.b0.a4
    unfold put4 at P p00 p01 p02 p03
    go_wp2_with fail
    replace L:=P
    clear P p00 p01 p02 p03
    clear c00 f00 c01 f01 c02 f02 c03 f03
    replace L:=L.subx (ns':=[(.slice A4 (zl R5) c4,(R5).natAbs),(.slice B4 (zl S5) d4,(S5).natAbs)]) (bs':=[(gz,53,#[.bool (ng R5),.slice A4 (zl R5) c4,.bool (ng S5),.slice B4 (zl S5) d4]),(w.heap.size + 1,28,#[.bool false,.slice none 0 0,.int .i64 0,.bool false,.slice none 0 0,.int .i64 0])]) (by simp) (by simp)
    refine (O9.out _ _ (isS_n (a:=R5) (b:=S5) (s:=.slice A4 (zl R5) c4) (t:=.slice B4 (zl S5) d4) (L.getN (by simp)) (L.getN (by simp)))).mono ?_
    rintro e w4 ⟨vv,rfl,ii,be⟩
    obtain ⟨A6,c6,B6,d6,rfl,ia,ib⟩:=ii.form
    replace L:=(((L.step be).n ib).n ia).swap
    clear be ii ia ib
    obtain ⟨c00,c01,c02,c03,c04,c05⟩:=L.b0.a6
    obtain ⟨f00,f01,f02,f03,f04,f05⟩:=L.b0.f6
    go_wp2_with fail
    have LP:=L.putI (by omega) (by first | (simp;done) | (simp;omega)) (ng M9) A6 (zl M9) c6 E9 (ng N9) B6 (zl N9) d6 F9
    obtain ⟨k0,k1,k2,k3,k4,k5⟩:=LP.b0.a6
    unfold put6 at k0 k1 k2 k3 k4 k5
    exact bodyPost_ret (v:=.agg #[.bool (ng M9),.slice A6 (zl M9) c6,.int .i64 E9,.bool (ng N9),.slice B6 (zl N9) d6,.int .i64 F9]) (by simp [results,Tryz.results18,go_sem,k0,k1,k2,k3,k4,k5]) rfl (RetAf.mk HG.out ⟨_,rfl,isI_n (LP.getN (by simp)) (LP.getN (by simp)),LP.below⟩)

theorem adiv_pos (m e n f m2 e2 n2 f2 k:Int) (vx vy:Value) (w:World) (hx:IsI w vx m e n f) (hy:IsI w vy m2 e2 n2 f2) (lm:zl m≤140) (ln:zl n≤140) (lm2:zl m2≤140) (ln2:zl n2≤140) (he:-4500≤e∧e≤4500) (hf:-4500≤f∧f≤4500) (he2:-4500≤e2∧e2≤4500) (hf2:-4500≤f2∧f2≤4500) (hd1:dcm m e n f≤0) (hd2:dcm m2 e2 n2 f2≤0) (hk1:-9223372036854775808≤k) (hk2:k≤9223372036854775807) (hT:Tab w) (hw:workB k = true) (hxy:cmpI m2 0 = cmpI n2 0) (hx0:¬ cmpI m2 0 = 0) (hx1:¬ cmpI m2 0 < 0) :
  Calls Tryz.prog 44 #[vx,vy,.int .i64 k] w (RetEn w (min4 (dq m e / dq m2 e2) (dq m e / dq n2 f2) (dq n f / dq m2 e2) (dq n f / dq n2 f2)) (max4 (dq m e / dq m2 e2) (dq m e / dq n2 f2) (dq n f / dq m2 e2) (dq n f / dq n2 f2)) k):=by
 obtain ⟨A,c,B,d,rfl,hn1,hn2⟩:=hx.form
 obtain ⟨A2,k2,B2,d2,rfl,hn3,hn4⟩:=hy.form
 have L0:=((((Lq.mk0 w).n hn4).n hn3).n hn2).n hn1
 have S0:=fun v W h => i10sign_any m2 e2 n2 f2 v W h (by omega) (by omega) (by omega) (by omega)
 have HW0:=fun W => aperm_any k W
 unfold RetSg at S0
 rw [hw] at HW0
 have HW:=Hd9 HW0
 clear HW0
 obtain ⟨ps1,ps2⟩:=(cmp_signs hxy).2 hx1 hx0
 obtain ⟨x,hx9⟩:=nm9 (cmpI m2 0)
 rw [if_pos hxy,decide_eq_true hxy] at S0
 rw [hx9] at S0 hx0 hx1
 have S:=Hd9 S0
 clear S0 hx9 hxy
 have b1:(x == 0) = false:=by simpa using hx0
 obtain ⟨lo,hlo⟩:=nm9 (min4 (dq m e / dq m2 e2) (dq m e / dq n2 f2) (dq n f / dq m2 e2) (dq n f / dq n2 f2))
 obtain ⟨hi,hhi⟩:=nm9 (max4 (dq m e / dq m2 e2) (dq m e / dq n2 f2) (dq n f / dq m2 e2) (dq n f / dq n2 f2))
 rw [hlo,hhi]
 have b2:decide (x < 0) = false:=decide_eq_false hx1
 have fl:min4 (dq m e / dq m2 e2) (dq m e / dq n2 f2) (dq n f / dq m2 e2) (dq n f / dq n2 f2) = lo:=hlo
 have fh:max4 (dq m e / dq m2 e2) (dq m e / dq n2 f2) (dq n f / dq m2 e2) (dq n f / dq n2 f2) = hi:=hhi
 have bs1:=fun v u z W h1 h2 h3 => absign_any m e m2 e2 n2 f2 v u z W h1 h2 h3 (by omega)
 have v1:=quo_lo hd1 hd2 ps1 ps2
 obtain ⟨p1,hp1⟩:=nm9 ((if m < 0 then m2 else n2))
 obtain ⟨s1,hs1⟩:=nm9 ((if m < 0 then e2 else f2))
 have pb1:zl p1≤140∧(-4500≤s1∧s1≤4500)∧p1 ≠ 0:=by rw [← hp1,← hs1];split <;> refine ⟨by omega,by omega,by omega⟩
 rw [hp1,hs1] at bs1 v1
 have qu1:=fun v u W h1 h2 => aquot_any m e p1 s1 v u W h1 h2 (by omega) (by omega) (by omega) (by omega) pb1.2.2
 have qs1:=qt_small (m:=m) (e:=e) (n:=p1) (f:=s1) pb1.2.2 (by omega) (by omega) (by omega) (by omega)
 have qp1:=qt_pos m e p1 s1
 obtain ⟨qa1,ha1⟩:=nm9 (qtA m e p1 s1)
 obtain ⟨qd1,hdd1⟩:=nm9 (qtD m e p1 s1)
 rw [ha1,hdd1] at v1 qu1 qs1
 rw [hdd1] at qp1
 rw [fl] at v1
 have bs2:=fun v u z W h1 h2 h3 => absign_any n f n2 f2 m2 e2 v u z W h1 h2 h3 (by omega)
 have v2:=quo_hi hd1 hd2 ps1 ps2
 obtain ⟨p2,hp2⟩:=nm9 ((if n < 0 then n2 else m2))
 obtain ⟨s2,hs2⟩:=nm9 ((if n < 0 then f2 else e2))
 have pb2:zl p2≤140∧(-4500≤s2∧s2≤4500)∧p2 ≠ 0:=by rw [← hp2,← hs2];split <;> refine ⟨by omega,by omega,by omega⟩
 rw [hp2,hs2] at bs2 v2
 have qu2:=fun v u W h1 h2 => aquot_any n f p2 s2 v u W h1 h2 (by omega) (by omega) (by omega) (by omega) pb2.2.2
 have qs2:=qt_small (m:=n) (e:=f) (n:=p2) (f:=s2) pb2.2.2 (by omega) (by omega) (by omega) (by omega)
 have qp2:=qt_pos n f p2 s2
 obtain ⟨qa2,ha2⟩:=nm9 (qtA n f p2 s2)
 obtain ⟨qd2,hdd2⟩:=nm9 (qtD n f p2 s2)
 rw [ha2,hdd2] at v2 qu2 qs2
 rw [hdd2] at qp2
 rw [fh] at v2
 have en:=fun v u W h1 h2 (hW:Below w.heap.size w W) => aenclR_any qa1 qd1 qa2 qd2 k v u W h1 h2 qs1.1 qs1.2 qp1 qs2.1 qs2.2 qp2 hw (hT.mono hW)
 rw [v1,v2] at en
 have BS1:=Hd9 bs1
 have BS2:=Hd9 bs2
 have QU1:=Hd9 qu1
 have QU2:=Hd9 qu2
 have EN:=Hd9 en
 clear bs1 bs2 qu1 qu2 en v1 v2 hp1 hp2 hs1 hs2 pb1 pb2 qs1 qs2 qp1 qp2 ha1 ha2 hdd1 hdd2
 clear fl fh hlo hhi hw hx0 hx1 ps1 ps2 hx hy hn1 hn2 hn3 hn4 lm ln lm2 ln2 he hf he2 hf2 hd1 hd2 hk1 hk2 hT
 go_enter Tryz.func44,Tryz.ntmps44
 go_wp2_with fail
 have L:=(((L0.varI (w.heap.size) (by simp) (ng m) A (zl m) c e (ng n) B (zl n) d f).varI (w.heap.size + 1) (by simp) (ng m2) A2 (zl m2) k2 e2 (ng n2) B2 (zl n2) d2 f2).varI (w.heap.size + 2) (by simp) false none 0 0 0 false none 0 0 0)
 obtain ⟨gr,hgr⟩:=nm9 (w.heap.size + 1 + 1)
 have hgr2:w.heap.size + 2 = gr:=hgr
 rw [hgr2] at L
 rw [hgr]
 have hgr3:w.heap.size + 1 < gr:=by omega
 clear hgr hgr2
 obtain ⟨c00,c01,c02,c03,c04,c05⟩:=L.b0.a6
 obtain ⟨f00,f01,f02,f03,f04,f05⟩:=L.b0.f6
 obtain ⟨c10,c11,c12,c13,c14,c15⟩:=L.tl.b0.a6
 (try go_wp2_with fail)
 refine (S.out _ _ (isI_n (m:=m2) (e:=e2) (n:=n2) (f:=f2) (L.getN (v:=.slice A2 (zl m2) k2) (x:=(m2).natAbs) (by simp)) (L.getN (v:=.slice B2 (zl n2) d2) (x:=(n2).natAbs) (by simp)))).mono ?_
 rintro e w1 ⟨rfl,be⟩
 clear c00 f00 c01 f01 c02 f02 c03 f03 c04 f04 c05 f05 c10 c11 c12 c13 c14 c15
 replace L:=L.step be
 clear be
 obtain ⟨c00,c01,c02,c03,c04,c05⟩:=L.b0.a6
 obtain ⟨f00,f01,f02,f03,f04,f05⟩:=L.b0.f6
 (try go_wp2_with fail)
 refine (HW.out _).mono ?_
 rintro e9 w' ⟨rfl,rfl⟩
 (try go_wp2_with fail)
 clear c00 f00 c01 f01 c02 f02 c03 f03 c04 f04 c05 f05
 have Q0:=Hd9 (fun Z (hZ:Below w1.heap.size w1 Z) => (L.tl.tl.b0.mono hZ).c60)
 have Q1:=Hd9 (fun Z (hZ:Below w1.heap.size w1 Z) => (L.tl.tl.b0.mono hZ).c61)
 have Q2:=Hd9 (fun Z (hZ:Below w1.heap.size w1 Z) => (L.tl.tl.b0.mono hZ).c62)
 have Q3:=Hd9 (fun Z (hZ:Below w1.heap.size w1 Z) => (L.tl.tl.b0.mono hZ).c63)
 have Q4:=Hd9 (fun Z (hZ:Below w1.heap.size w1 Z) => (L.tl.tl.b0.mono hZ).c64)
 have Q5:=Hd9 (fun Z (hZ:Below w1.heap.size w1 Z) => (L.tl.tl.b0.mono hZ).c65)
 have Q6:=Hd9 (fun Z (hZ:Below w1.heap.size w1 Z) => (L.tl.b0.mono hZ).c60)
 have Q7:=Hd9 (fun Z (hZ:Below w1.heap.size w1 Z) => (L.tl.b0.mono hZ).c61)
 have Q8:=Hd9 (fun Z (hZ:Below w1.heap.size w1 Z) => (L.tl.b0.mono hZ).c62)
 have Q9:=Hd9 (fun Z (hZ:Below w1.heap.size w1 Z) => (L.tl.b0.mono hZ).c63)
 have Q10:=Hd9 (fun Z (hZ:Below w1.heap.size w1 Z) => (L.tl.b0.mono hZ).c64)
 have Q11:=Hd9 (fun Z (hZ:Below w1.heap.size w1 Z) => (L.tl.b0.mono hZ).c65)
 have hb1:=L.tl.tl.b0.lt
 have hb2:=L.tl.b0.lt
 have D0:Dq w1 w1 [(.slice A (zl m) c,m.natAbs),(.slice B (zl n) d,n.natAbs),(.slice A2 (zl m2) k2,m2.natAbs),(.slice B2 (zl n2) d2,n2.natAbs)] [] [] []:=⟨((((Lq.mk0 w1).n (L.getN (v:=.slice B2 (zl n2) d2) (x:=(n2).natAbs) (by simp))).n (L.getN (v:=.slice A2 (zl m2) k2) (x:=(m2).natAbs) (by simp))).n (L.getN (v:=.slice B (zl n) d) (x:=(n).natAbs) (by simp))).n (L.getN (v:=.slice A (zl m) c) (x:=(m).natAbs) (by simp)),List.nodup_nil,fun p hp => by cases hp⟩
 have D:=D0.drew
 have LL:=Hd9 L
 clear L
 obtain ⟨K,hK⟩:=nm9 (w1.heap.size)
 have hz0:K≤w1.heap.size:=by omega
 have hc1:w.heap.size < K:=by omega
 have hc2:w.heap.size + 1 < K:=by omega
 have hmd:w1.drew.heap.size = K:=hK
 go_cut [10] from 40 to 50 (fun s5 wx => Made1Q w1 qa1 qd1 s5 wx)
 case first =>
  go_region_held3 (fun w' => w'.cell? ⟨w.heap.size,0,none⟩ = some (.bool (ng m))∧w'.cell? ⟨w.heap.size,1,none⟩ = some (.slice A (zl m) c)∧w'.cell? ⟨w.heap.size,2,none⟩ = some (.int .i64 e)∧w'.cell? ⟨w.heap.size,3,none⟩ = some (.bool (ng n))∧w'.cell? ⟨w.heap.size,4,none⟩ = some (.slice B (zl n) d)∧w'.cell? ⟨w.heap.size,5,none⟩ = some (.int .i64 f)∧w'.cell? ⟨w.heap.size + 1,0,none⟩ = some (.bool (ng m2))∧w'.cell? ⟨w.heap.size + 1,1,none⟩ = some (.slice A2 (zl m2) k2)∧w'.cell? ⟨w.heap.size + 1,2,none⟩ = some (.int .i64 e2)∧w'.cell? ⟨w.heap.size + 1,3,none⟩ = some (.bool (ng n2))∧w'.cell? ⟨w.heap.size + 1,4,none⟩ = some (.slice B2 (zl n2) d2)∧w'.cell? ⟨w.heap.size + 1,5,none⟩ = some (.int .i64 f2)) (((try dsimp only);refine ⟨?_,?_,?_,?_,?_,?_,?_,?_,?_,?_,?_,?_⟩ <;> (repeat (first | (with_reducible exact Q0.out _ D.lq.below) | (with_reducible exact Q0.out _ D0.lq.below) | (with_reducible exact Q1.out _ D.lq.below) | (with_reducible exact Q1.out _ D0.lq.below) | (with_reducible exact Q2.out _ D.lq.below) | (with_reducible exact Q2.out _ D0.lq.below) | (with_reducible exact Q3.out _ D.lq.below) | (with_reducible exact Q3.out _ D0.lq.below) | (with_reducible exact Q4.out _ D.lq.below) | (with_reducible exact Q4.out _ D0.lq.below) | (with_reducible exact Q5.out _ D.lq.below) | (with_reducible exact Q5.out _ D0.lq.below) | (with_reducible exact Q6.out _ D.lq.below) | (with_reducible exact Q6.out _ D0.lq.below) | (with_reducible exact Q7.out _ D.lq.below) | (with_reducible exact Q7.out _ D0.lq.below) | (with_reducible exact Q8.out _ D.lq.below) | (with_reducible exact Q8.out _ D0.lq.below) | (with_reducible exact Q9.out _ D.lq.below) | (with_reducible exact Q9.out _ D0.lq.below) | (with_reducible exact Q10.out _ D.lq.below) | (with_reducible exact Q10.out _ D0.lq.below) | (with_reducible exact Q11.out _ D.lq.below) | (with_reducible exact Q11.out _ D0.lq.below) | (with_reducible refine c_alloc _ ?_) | (with_reducible refine c_drew ?_) | (with_reducible refine c_set ?_ (by assumption) ?_) | omega)))) (first | (go_at_call 99;(with_reducible refine (BS1.out _ _ _ _ ?_ ?_ ?_).mono ?_);(· (first | (with_reducible refine isD_n (D.getN ?_);(repeat (first | (with_reducible exact mS) | apply mT))) | (with_reducible refine isD_n ((D.box false none none 0 0 0 0).getN ?_);(repeat (first | (with_reducible exact mS) | apply mT))) | (with_reducible refine isD_n ((D0.box false none none 0 0 0 0).drew.getN ?_);(repeat (first | (with_reducible exact mS) | apply mT)))));(· (first | (with_reducible refine isD_n (D.getN ?_);(repeat (first | (with_reducible exact mS) | apply mT))) | (with_reducible refine isD_n ((D.box false none none 0 0 0 0).getN ?_);(repeat (first | (with_reducible exact mS) | apply mT))) | (with_reducible refine isD_n ((D0.box false none none 0 0 0 0).drew.getN ?_);(repeat (first | (with_reducible exact mS) | apply mT)))));(· (first | (with_reducible refine isD_n (D.getN ?_);(repeat (first | (with_reducible exact mS) | apply mT))) | (with_reducible refine isD_n ((D.box false none none 0 0 0 0).getN ?_);(repeat (first | (with_reducible exact mS) | apply mT))) | (with_reducible refine isD_n ((D0.box false none none 0 0 0 0).drew.getN ?_);(repeat (first | (with_reducible exact mS) | apply mT)))));rintro e9 wh ⟨vh,rfl,id,be⟩;obtain ⟨A7,c7,rfl,_,in9⟩:=id.form;(first | (replace D:=D.step be) | (replace D:=(D.boxM hmd false none none 0 0 0 0).step be) | (replace D:=(D.box false none none 0 0 0 0).step be));have hz:=be.size;(try simp at hz);replace D:=D.n in9;clear id in9;(try (obtain ⟨x00,x01,x02⟩:=D.lq.b0.a3;obtain ⟨y00,y01,y02⟩:=D.lq.b0.f3));(try obtain ⟨na,nb,nc,nd,nl⟩:=D.n0)) | (go_at_call 98;(with_reducible refine (QU1.out _ _ _ ?_ ?_).mono ?_);(· (first | (with_reducible refine isD_n (D.getN ?_);(repeat (first | (with_reducible exact mS) | apply mT))) | (with_reducible refine isD_n ((D.box false none none 0 0 0 0).getN ?_);(repeat (first | (with_reducible exact mS) | apply mT))) | (with_reducible refine isD_n ((D0.box false none none 0 0 0 0).drew.getN ?_);(repeat (first | (with_reducible exact mS) | apply mT)))));(· (first | (with_reducible refine isD_n (D.getN ?_);(repeat (first | (with_reducible exact mS) | apply mT))) | (with_reducible refine isD_n ((D.box false none none 0 0 0 0).getN ?_);(repeat (first | (with_reducible exact mS) | apply mT))) | (with_reducible refine isD_n ((D0.box false none none 0 0 0 0).drew.getN ?_);(repeat (first | (with_reducible exact mS) | apply mT)))));rintro e9 wh ⟨vh,rfl,iq,be⟩;obtain ⟨A8,c8,B8,k8,rfl,_,_,_⟩:=iq.form;(first | (replace D:=D.step be) | (replace D:=(D.boxM hmd false none none 0 0 0 0).step be) | (replace D:=(D.box false none none 0 0 0 0).step be));have hz:=be.size;(try simp at hz);replace D:=D.q iq;clear iq;(try (obtain ⟨x00,x01,x02⟩:=D.lq.b0.a3;obtain ⟨y00,y01,y02⟩:=D.lq.b0.f3));(try obtain ⟨na,nb,nc,nd,nl⟩:=D.n0)))
  all_goals
   go_wp2_with fail
   go_meet
   first
   | ((with_reducible refine made1q_a D ?_) <;> (repeat (first | (with_reducible exact mS) | apply mT)))
   | ((with_reducible refine made1q_b D ?_) <;> (repeat (first | (with_reducible exact mS) | apply mT)))
 case rest =>
  obtain ⟨gq1,Aq1,cq1,Bq1,kq1,rfl,hg,bw,hb3,iq⟩:=hcut
  have hg4:=LL.out.b0.lt
  have hgq1:gr < gq1:=by omega
  have hgs1:=hb3.lt
  have L:=((LL.out.step bw).q iq).b hb3
  clear D D0 hmd hz0 hK LL hb3 iq bw hb1 hb2 hc1 hc2 hg hg4 Q0 Q1 Q2 Q3 Q4 Q5 Q6 Q7 Q8 Q9 Q10 Q11
  generalize wc = wd1 at *
  (try go_wp2_with fail)
  replace L:=L.swap
  have Q0:=Hd9 (fun Z (hZ:Below wd1.heap.size wd1 Z) => (L.tl.tl.tl.b0.mono hZ).c60)
  have Q1:=Hd9 (fun Z (hZ:Below wd1.heap.size wd1 Z) => (L.tl.tl.tl.b0.mono hZ).c61)
  have Q2:=Hd9 (fun Z (hZ:Below wd1.heap.size wd1 Z) => (L.tl.tl.tl.b0.mono hZ).c62)
  have Q3:=Hd9 (fun Z (hZ:Below wd1.heap.size wd1 Z) => (L.tl.tl.tl.b0.mono hZ).c63)
  have Q4:=Hd9 (fun Z (hZ:Below wd1.heap.size wd1 Z) => (L.tl.tl.tl.b0.mono hZ).c64)
  have Q5:=Hd9 (fun Z (hZ:Below wd1.heap.size wd1 Z) => (L.tl.tl.tl.b0.mono hZ).c65)
  have Q6:=Hd9 (fun Z (hZ:Below wd1.heap.size wd1 Z) => (L.tl.tl.b0.mono hZ).c60)
  have Q7:=Hd9 (fun Z (hZ:Below wd1.heap.size wd1 Z) => (L.tl.tl.b0.mono hZ).c61)
  have Q8:=Hd9 (fun Z (hZ:Below wd1.heap.size wd1 Z) => (L.tl.tl.b0.mono hZ).c62)
  have Q9:=Hd9 (fun Z (hZ:Below wd1.heap.size wd1 Z) => (L.tl.tl.b0.mono hZ).c63)
  have Q10:=Hd9 (fun Z (hZ:Below wd1.heap.size wd1 Z) => (L.tl.tl.b0.mono hZ).c64)
  have Q11:=Hd9 (fun Z (hZ:Below wd1.heap.size wd1 Z) => (L.tl.tl.b0.mono hZ).c65)
  have hb1:=L.tl.tl.tl.b0.lt
  have hb2:=L.tl.tl.b0.lt
  have D0:Dq wd1 wd1 [(.slice A (zl m) c,m.natAbs),(.slice B (zl n) d,n.natAbs),(.slice A2 (zl m2) k2,m2.natAbs),(.slice B2 (zl n2) d2,n2.natAbs)] [] [] []:=⟨((((Lq.mk0 wd1).n (L.getN (v:=.slice B2 (zl n2) d2) (x:=(n2).natAbs) (by simp))).n (L.getN (v:=.slice A2 (zl m2) k2) (x:=(m2).natAbs) (by simp))).n (L.getN (v:=.slice B (zl n) d) (x:=(n).natAbs) (by simp))).n (L.getN (v:=.slice A (zl m) c) (x:=(m).natAbs) (by simp)),List.nodup_nil,fun p hp => by cases hp⟩
  have D:=D0.drew
  have LL:=Hd9 L
  clear L
  obtain ⟨K,hK⟩:=nm9 (wd1.heap.size)
  have hz0:K≤wd1.heap.size:=by omega
  have hc1:w.heap.size < K:=by omega
  have hc2:w.heap.size + 1 < K:=by omega
  have hmd:wd1.drew.heap.size = K:=hK
  go_cut [11] from 50 to 60 (fun s5 wx => Made1Q wd1 qa2 qd2 s5 wx)
  case first =>
   go_region_held3 (fun w' => w'.cell? ⟨w.heap.size,0,none⟩ = some (.bool (ng m))∧w'.cell? ⟨w.heap.size,1,none⟩ = some (.slice A (zl m) c)∧w'.cell? ⟨w.heap.size,2,none⟩ = some (.int .i64 e)∧w'.cell? ⟨w.heap.size,3,none⟩ = some (.bool (ng n))∧w'.cell? ⟨w.heap.size,4,none⟩ = some (.slice B (zl n) d)∧w'.cell? ⟨w.heap.size,5,none⟩ = some (.int .i64 f)∧w'.cell? ⟨w.heap.size + 1,0,none⟩ = some (.bool (ng m2))∧w'.cell? ⟨w.heap.size + 1,1,none⟩ = some (.slice A2 (zl m2) k2)∧w'.cell? ⟨w.heap.size + 1,2,none⟩ = some (.int .i64 e2)∧w'.cell? ⟨w.heap.size + 1,3,none⟩ = some (.bool (ng n2))∧w'.cell? ⟨w.heap.size + 1,4,none⟩ = some (.slice B2 (zl n2) d2)∧w'.cell? ⟨w.heap.size + 1,5,none⟩ = some (.int .i64 f2)) (((try dsimp only);refine ⟨?_,?_,?_,?_,?_,?_,?_,?_,?_,?_,?_,?_⟩ <;> (repeat (first | (with_reducible exact Q0.out _ D.lq.below) | (with_reducible exact Q0.out _ D0.lq.below) | (with_reducible exact Q1.out _ D.lq.below) | (with_reducible exact Q1.out _ D0.lq.below) | (with_reducible exact Q2.out _ D.lq.below) | (with_reducible exact Q2.out _ D0.lq.below) | (with_reducible exact Q3.out _ D.lq.below) | (with_reducible exact Q3.out _ D0.lq.below) | (with_reducible exact Q4.out _ D.lq.below) | (with_reducible exact Q4.out _ D0.lq.below) | (with_reducible exact Q5.out _ D.lq.below) | (with_reducible exact Q5.out _ D0.lq.below) | (with_reducible exact Q6.out _ D.lq.below) | (with_reducible exact Q6.out _ D0.lq.below) | (with_reducible exact Q7.out _ D.lq.below) | (with_reducible exact Q7.out _ D0.lq.below) | (with_reducible exact Q8.out _ D.lq.below) | (with_reducible exact Q8.out _ D0.lq.below) | (with_reducible exact Q9.out _ D.lq.below) | (with_reducible exact Q9.out _ D0.lq.below) | (with_reducible exact Q10.out _ D.lq.below) | (with_reducible exact Q10.out _ D0.lq.below) | (with_reducible exact Q11.out _ D.lq.below) | (with_reducible exact Q11.out _ D0.lq.below) | (with_reducible refine c_alloc _ ?_) | (with_reducible refine c_drew ?_) | (with_reducible refine c_set ?_ (by assumption) ?_) | omega)))) (first | (go_at_call 99;(with_reducible refine (BS2.out _ _ _ _ ?_ ?_ ?_).mono ?_);(· (first | (with_reducible refine isD_n (D.getN ?_);(repeat (first | (with_reducible exact mS) | apply mT))) | (with_reducible refine isD_n ((D.box false none none 0 0 0 0).getN ?_);(repeat (first | (with_reducible exact mS) | apply mT))) | (with_reducible refine isD_n ((D0.box false none none 0 0 0 0).drew.getN ?_);(repeat (first | (with_reducible exact mS) | apply mT)))));(· (first | (with_reducible refine isD_n (D.getN ?_);(repeat (first | (with_reducible exact mS) | apply mT))) | (with_reducible refine isD_n ((D.box false none none 0 0 0 0).getN ?_);(repeat (first | (with_reducible exact mS) | apply mT))) | (with_reducible refine isD_n ((D0.box false none none 0 0 0 0).drew.getN ?_);(repeat (first | (with_reducible exact mS) | apply mT)))));(· (first | (with_reducible refine isD_n (D.getN ?_);(repeat (first | (with_reducible exact mS) | apply mT))) | (with_reducible refine isD_n ((D.box false none none 0 0 0 0).getN ?_);(repeat (first | (with_reducible exact mS) | apply mT))) | (with_reducible refine isD_n ((D0.box false none none 0 0 0 0).drew.getN ?_);(repeat (first | (with_reducible exact mS) | apply mT)))));rintro e9 wh ⟨vh,rfl,id,be⟩;obtain ⟨A7,c7,rfl,_,in9⟩:=id.form;(first | (replace D:=D.step be) | (replace D:=(D.boxM hmd false none none 0 0 0 0).step be) | (replace D:=(D.box false none none 0 0 0 0).step be));have hz:=be.size;(try simp at hz);replace D:=D.n in9;clear id in9;(try (obtain ⟨x00,x01,x02⟩:=D.lq.b0.a3;obtain ⟨y00,y01,y02⟩:=D.lq.b0.f3));(try obtain ⟨na,nb,nc,nd,nl⟩:=D.n0)) | (go_at_call 98;(with_reducible refine (QU2.out _ _ _ ?_ ?_).mono ?_);(· (first | (with_reducible refine isD_n (D.getN ?_);(repeat (first | (with_reducible exact mS) | apply mT))) | (with_reducible refine isD_n ((D.box false none none 0 0 0 0).getN ?_);(repeat (first | (with_reducible exact mS) | apply mT))) | (with_reducible refine isD_n ((D0.box false none none 0 0 0 0).drew.getN ?_);(repeat (first | (with_reducible exact mS) | apply mT)))));(· (first | (with_reducible refine isD_n (D.getN ?_);(repeat (first | (with_reducible exact mS) | apply mT))) | (with_reducible refine isD_n ((D.box false none none 0 0 0 0).getN ?_);(repeat (first | (with_reducible exact mS) | apply mT))) | (with_reducible refine isD_n ((D0.box false none none 0 0 0 0).drew.getN ?_);(repeat (first | (with_reducible exact mS) | apply mT)))));rintro e9 wh ⟨vh,rfl,iq,be⟩;obtain ⟨A8,c8,B8,k8,rfl,_,_,_⟩:=iq.form;(first | (replace D:=D.step be) | (replace D:=(D.boxM hmd false none none 0 0 0 0).step be) | (replace D:=(D.box false none none 0 0 0 0).step be));have hz:=be.size;(try simp at hz);replace D:=D.q iq;clear iq;(try (obtain ⟨x00,x01,x02⟩:=D.lq.b0.a3;obtain ⟨y00,y01,y02⟩:=D.lq.b0.f3));(try obtain ⟨na,nb,nc,nd,nl⟩:=D.n0)))
   all_goals
    go_wp2_with fail
    go_meet
    first
    | ((with_reducible refine made1q_a D ?_) <;> (repeat (first | (with_reducible exact mS) | apply mT)))
    | ((with_reducible refine made1q_b D ?_) <;> (repeat (first | (with_reducible exact mS) | apply mT)))
  case rest =>
   obtain ⟨gq2,Aq2,cq2,Bq2,kq2,rfl,hg,bw,hb3,iq⟩:=hcut
   have hg4:=LL.out.b0.lt
   have hgq2:gr < gq2:=by omega
   have hgs2:=hb3.lt
   have L:=((LL.out.step bw).q iq).b hb3
   clear D D0 hmd hz0 hK LL hb3 iq bw hb1 hb2 hc1 hc2 hg hg4 Q0 Q1 Q2 Q3 Q4 Q5 Q6 Q7 Q8 Q9 Q10 Q11
   generalize wc = wd2 at *
   obtain ⟨c00,c01,c02⟩:=L.b0.a3
   obtain ⟨c20,c21,c22⟩:=L.tl.tl.b0.a3
   (try go_wp2_with fail)
   refine (EN.out _ _ _ (L.getQ (v:=.agg #[.bool (ng qa1),.slice Aq1 (zl qa1) cq1,.slice Bq1 (len qd1) kq1]) (a:=qa1) (d:=qd1) (by simp)) (L.getQ (v:=.agg #[.bool (ng qa2),.slice Aq2 (zl qa2) cq2,.slice Bq2 (len qd2) kq2]) (a:=qa2) (d:=qd2) (by simp)) L.below).mono ?_
   intro e9 w19 hen
   obtain ⟨v19,er,m9,e9',n9,f9,rfl,ii,be,hback⟩:=hen.form
   obtain ⟨A5,c5,B5,d5,rfl,ia,ib⟩:=ii.form
   replace L:=(((L.step be).n ib).n ia).swap
   clear be ii ia ib hen
   have HBK:=Hd9 hback
   clear hback
   clear c00 c01 c02 c20 c21 c22
   obtain ⟨c00,c01,c02,c03,c04,c05⟩:=L.b0.a6
   obtain ⟨f00,f01,f02,f03,f04,f05⟩:=L.b0.f6
   go_wp2_with fail
   have LP:=L.putI (by omega) (by first | (simp;done) | (simp;omega)) (ng m9) A5 (zl m9) c5 e9' (ng n9) B5 (zl n9) d5 f9
   have k0':=LP.b0.c60
   have k1':=LP.b0.c61
   have k2':=LP.b0.c62
   have k3':=LP.b0.c63
   have k4':=LP.b0.c64
   have k5':=LP.b0.c65
   unfold put6 at k0' k1' k2' k3' k4' k5'
   exact bodyPost_ret (v:=.tuple #[.agg #[.bool (ng m9),.slice A5 (zl m9) c5,.int .i64 e9',.bool (ng n9),.slice B5 (zl n9) d5,.int .i64 f9],.int .i64 er]) (by simp [results,Tryz.results44,go_sem,k0',k1',k2',k3',k4',k5']) rfl (HBK.out _ _ _ (isI_n (LP.getN (by simp)) (LP.getN (by simp))) LP.below)

def okA (p:Int):Bool:=decide (0≤p) && decide (p≤4096)
theorem tperm_any (p:Int) (w:World) :
  Calls Tryz.prog 61 #[.int .i64 p] w (fun e w' => e = .returned (.bool (okA p))∧w = w'):=by
 unfold okA
 by_cases q1:0≤p
 ·have b1:decide (0≤p) = true:=decide_eq_true q1
  rw [b1,Bool.true_and]
  go_enter Tryz.func61,Tryz.ntmps61
  go_wp2_with fail
  go_ret
  exact ⟨rfl,rfl⟩
 ·have b1:decide (0≤p) = false:=decide_eq_false q1
  rw [b1,Bool.false_and]
  go_enter Tryz.func61,Tryz.ntmps61
  go_wp2_with fail
  go_ret
  exact ⟨rfl,rfl⟩
theorem tprod_any (M E N G F:Int) (p:Nat) (vx vy:Value) (w:World) (hx:IsD w vx M E) (hy:IsD w vy N G) (lm:zl M≤150) (ln:zl N≤150) (he:-4500≤E∧E≤4500) (hg:-4500≤G∧G≤4500) (hF:cutQ (dq M E * dq N G) (p:Int) = F) (hb:AbP F 10000) (hp:p≤8192) (hT:Tab w) :
  Calls Tryz.prog 190 #[vx,vy,.int .i64 (p:Int)] w (RetD8 w (mkM F (-(p:Int))) (mkE F (-(p:Int)))):=by
 obtain ⟨A,c,rfl,_,hn⟩:=hx.form
 obtain ⟨B,d,rfl,_,hn2⟩:=hy.form
 have L0:=((Lq.mk0 w).n hn2).n hn
 have hz:=zl_mul M N
 have hr:mkR (M * N) (E + G) = 0:=mk_fits9 (by omega) (by omega) (by omega)
 have z1:=zl_mk (M * N) (E + G)
 have z2:=mkE_at hr (k:=300) (by omega)
 have hd:=dq_mk hr
 rw [dq_mul] at hd
 obtain ⟨M4,hM4⟩:=nm9 (mkM (M * N) (E + G))
 obtain ⟨E4,hE4⟩:=nm9 (mkE (M * N) (E + G))
 rw [hM4] at z1 hd
 rw [hE4] at z2 hd
 have g1:=fun x y W h j (hW:Below w.heap.size w W) => dmul_any M E N G x y W h j (by omega) (by omega) (by omega) (by omega) (hT.mono hW)
 rw [hM4,hE4,hr] at g1
 obtain ⟨y1,y2,y3⟩:=g_yes (permN (p:=p) (by omega)) F
 obtain ⟨n1,n2,n3,_,_⟩:=nx hb (by omega) (show -20000≤-(p:Int)∧-(p:Int)≤20000 by omega)
 have g2:=fun x W h (hW:Below w.heap.size w W) => gfloor_any M4 E4 (p:Int) x W h (by omega) (by omega) (by omega) (by omega) (hT.mono hW)
 rw [hd,hF,y1,y2,y3,n1] at g2
 clear y1 y2 y3 n1 n2 n3 hz hr z1 z2 hd hM4 hE4 lm ln he hg hb hp hT hF hx hy
 generalize mkM F (-(p:Int)) = Z at *
 generalize mkE F (-(p:Int)) = Q at *
 have G1:=Hd9 g1
 have G2:=Hd9 g2
 clear g1 g2
 go_enter Tryz.func190,Tryz.ntmps190
 have L:=(((L0.varD (w.heap.size) (by simp) (ng M) A (zl M) c E).varD (w.heap.size + 1) (by simp) (ng N) B (zl N) d G).varD (w.heap.size + 2) (by simp) false none 0 0 0)
 obtain ⟨c10,c11,c12⟩:=L.tl.b0.a3
 obtain ⟨c20,c21,c22⟩:=L.tl.tl.b0.a3
 (try go_wp2_with fail)
 refine (G1.out _ _ _ (isD_n (m:=M) (e:=E) (s:=.slice A (zl M) c) (L.getN (by simp))) (isD_n (m:=N) (e:=G) (s:=.slice B (zl N) d) (L.getN (by simp))) L.below).mono ?_
 rintro e w1 ⟨v9,rfl,iz,be⟩
 clear c10 c11 c12 c20 c21 c22
 obtain ⟨A4,c4,rfl,_,in9⟩:=iz.form
 replace L:=(L.step be).n in9
 clear be iz in9
 have hl9:=L.b0.lt
 replace L:=L.varD w1.heap.size rfl (ng M4) A4 (zl M4) c4 E4
 obtain ⟨c00,c01,c02⟩:=L.b0.a3
 go_wp2_with fail
 clear c00 c01 c02
 obtain ⟨g1,hg1⟩:=nm9 (w1.heap.size)
 rw [hg1] at L hl9 ⊢
 clear hg1
 have hl_g1:=hl9
 clear hl9
 refine (G2.out _ _ (isD_n (m:=M4) (e:=E4) (s:=.slice A4 (zl M4) c4) (L.getN (by simp))) L.below).mono ?_
 rintro e w2 ⟨v9,rfl,iz,be⟩
 obtain ⟨A5,c5,rfl,_,in9⟩:=iz.form
 replace L:=(L.step be).n in9
 clear be iz in9
 have hl9:=L.b0.lt
 have L9:=L.subx (ns':=[(.slice A5 (zl Z) c5,Z.natAbs)]) (bs':=[(w.heap.size + 1 + 1,26,#[.bool false,.slice none 0 0,.int .i64 0])]) (by simp) (by simp)
 clear L
 have L:=L9
 clear L9
 have n9:w.heap.size + 1 + 1 ≠ w2.heap.size:=by omega
 obtain ⟨c00,c01,c02⟩:=L.b0.a3
 obtain ⟨f00,f01,f02⟩:=L.b0.f3
 have LN:=L.varD w2.heap.size rfl (ng Z) A5 (zl Z) c5 Q
 obtain ⟨v0,v1,v2⟩:=LN.b0.a3
 obtain ⟨v3,v4,v5⟩:=LN.tl.b0.a3
 obtain ⟨v6,v7,v8⟩:=LN.tl.b0.f3
 go_wp2_with fail
 clear c00 f00 c01 f01 c02 f02
 clear v0 v1 v2 v3 v4 v5 v6 v7 v8
 clear L
 have L:=LN.swap
 clear LN
 have LP:=L.putD (by omega) (by first | (simp;done) | (simp;omega)) (ng Z) A5 (zl Z) c5 (Q)
 obtain ⟨k0,k1,k2⟩:=LP.b0.a3
 unfold put3 at k0 k1 k2
 exact bodyPost_ret (v:=.agg #[.bool (ng Z),.slice A5 (zl Z) c5,.int .i64 (Q)]) (by simp [results,Tryz.results190,go_sem,k0,k1,k2]) rfl ⟨_,rfl,isD_n (LP.getN (by simp)),LP.below⟩
theorem tsplit_any (p:Nat) (w:World) (hp:p≤4096) :
  Calls Tryz.prog 191 #[.int .i64 (p:Int)] w (fun e w' => e = .returned (.tuple #[.int .i64 (p:Int),.int .i64 0])∧w = w'):=by
 have m1:min (p:Int) 4096 = (p:Int):=by omega
 have w1:IntKind.i64.wrap ((p:Int) - (p:Int)) = 0:=by rw [Int.sub_self];decide
 have w2:IntKind.i64.wrap 0 = 0:=by decide
 have h1:(p:Int)≤4096:=by omega
 go_enter Tryz.func191,Tryz.ntmps191
 go_wp2_with fail
 exact bodyPost_ret (v:=.tuple #[.int .i64 (p:Int),.int .i64 0]) (by simp [results,Tryz.results191,go_sem]) rfl ⟨rfl,rfl⟩
theorem quo_bd {q:Rat} {p:Nat} (h0:0≤q) (h1:q≤1024):AbP (cutQ q (p:Int)) (p + 10)∧AbP (-(cutQ (-q) (p:Int))) (p + 10)∧0≤cutQ q (p:Int):=by
 have one:dq (2 ^ p) (-(p:Int)) = 1:=by rw [dq_scale];exact two_cast p
 have big:dq (1024 * 2 ^ p) (-(p:Int)) = 1024:=by
  rw [dq_scale] at one ⊢
  rw [Rat.intCast_mul,Rat.mul_assoc,one,Rat.mul_one]
  rfl
 have a1:=cut_lo q (p:Int)
 have a2:=cut_hi q (p:Int)
 have b1:=cut_lo (-q) (p:Int)
 have b2:=cut_hi (-q) (p:Int)
 have u:=dq_pos (-(p:Int))
 have e:((2 ^ (p + 10):Nat):Int) = 1024 * 2 ^ p:=by rw [Nat.pow_add];push_cast;rw [Int.mul_comm]
 have n0:0≤cutQ q (p:Int):=by
  refine Int.not_lt.1 fun hlt => ?_
  have:=(dq_le_iff (cutQ q (p:Int) + 1) 0 (-(p:Int))).2 (by omega)
  rw [dq_succ,dq_zero] at this
  grind
 have n1:cutQ q (p:Int)≤1024 * 2 ^ p:=(dq_le_iff _ _ (-(p:Int))).1 (by rw [big];grind)
 have m0:cutQ (-q) (p:Int)≤0:=(dq_le_iff _ _ (-(p:Int))).1 (by rw [dq_zero];grind)
 have m1:-(1024 * 2 ^ p)≤cutQ (-q) (p:Int):=by
  refine Int.not_lt.1 fun hlt => ?_
  have:=(dq_le_iff (cutQ (-q) (p:Int) + 1) (-(1024 * 2 ^ p)) (-(p:Int))).2 (by omega)
  rw [dq_succ,dq_neg,big] at this
  grind
 unfold AbP
 exact ⟨by omega,by omega,n0⟩

theorem tquot_any (M E N G F:Int) (p:Nat) (vx vy:Value) (w:World) (hx:IsD w vx M E) (hy:IsD w vy N G) (hv:Dv M E) (hv2:Dv N G) (lm:zl M≤140) (ln:zl N≤140) (he:-4000≤E∧E≤4000) (hg:-4000≤G∧G≤4000) (h0:0≤dq M E) (h1:dq M E≤1) (h2:1≤dq N G * 1024) (hF:cutQ (dq M E / dq N G) (p:Int) = F) (hp:p≤4096) (hT:Tab w) :
  Calls Tryz.prog 120 #[vx,vy,.int .i64 (p:Int)] w (RetD8 w (mkM F (-(p:Int))) (mkE F (-(p:Int)))):=by
 obtain ⟨A,c,rfl,_,hn⟩:=hx.form
 obtain ⟨B,d,rfl,_,hn2⟩:=hy.form
 have L0:=((Lq.mk0 w).n hn2).n hn
 have gs:=fun W => tsplit_any p W (by omega)
 have GS:=Hd9 gs
 clear gs
 have wz1:IntKind.i64.wrap (-(0:Int)) = 0:=by decide
 have wz2:IntKind.i64.wrap (2 * (0:Int)) = 0:=by decide
 have wz3:IntKind.i64.wrap 0 = 0:=by decide
 obtain ⟨s1,s2,s3⟩:=np_same hv (by omega) (by omega)
 have g1:=fun x W h (hW:Below w.heap.size w W) => dshift_any M E 0 x W h (by omega) (by omega) (by omega) (hT.mono hW)
 rw [s1,s2,s3] at g1
 have g2:=fun x W h => i10point_any M E x W h (by omega) (by omega) hv
 have g3:=fun x W h => i10point_any N G x W h (by omega) (by omega) hv2
 have hwk:workB (p:Int) = true:=by
  unfold workB
  rw [decide_eq_true (show (0:Int)≤(p:Int) by omega),decide_eq_true (show (p:Int)≤4096 by omega)]
  rfl
 have hq0:0 < dq N G:=by grind
 have hN0:0 < N:=(dq_gt0 N G).1 hq0
 obtain ⟨q,hq⟩:=nm9 (dq M E / dq N G)
 have hqm:q * dq N G = dq M E:=by rw [← hq];exact Rat.div_mul_cancel (Rat.ne_of_gt hq0)
 have q0:0≤q:=le_of_mul hq0 (by rw [hqm,Rat.zero_mul];exact h0)
 have q1:q≤1024:=le_of_mul hq0 (by rw [hqm];grind)
 obtain ⟨r2,r3,_⟩:=quo_bd (p:=p) q0 q1
 rw [hq] at hF
 rw [hF] at r2
 have g4:=fun x y W h j (hW:Below w.heap.size w W) => adiv_pos M E M E N G N G (p:Int) x y W h j (by omega) (by omega) (by omega) (by omega) (by omega) (by omega) (by omega) (by omega) (by rw [dcm_self];omega) (by rw [dcm_self];omega) (by omega) (by omega) (hT.mono hW) hwk rfl (by rw [cmpI_gt hN0];omega) (by rw [cmpI_gt hN0];omega)
 rw [hq] at g4
 have em:min4 q q q q = q:=by rcases min4_or q q q q with h | h | h | h <;> exact h
 have ex:max4 q q q q = q:=by rcases max4_or q q q q with h | h | h | h <;> exact h
 have z1:=r2.zl
 have z2:=r3.zl
 have hen:=fun W => RetEn.ok (lo:=q) (hi:=q) hwk (z:=3) (by rw [hF];omega) (by omega) (by omega) Rat.le_refl W
 rw [em,ex] at g4
 simp only [hen] at g4
 unfold enM enE at g4
 rw [hF] at g4
 obtain ⟨f1,f2,f3,f4,f5⟩:=nx (x := -(p:Int)) r2 (by omega) (by omega)
 obtain ⟨X,hX⟩:=nm9 (mkM F (-(p:Int)))
 obtain ⟨Y,hY⟩:=nm9 (mkE F (-(p:Int)))
 rw [hX] at g4 f2 f4 f5 ⊢
 rw [hY] at g4 f3 f4 f5 ⊢
 obtain ⟨t1,t2,t3⟩:=np_same f4 (by omega) (by omega)
 have g5:=fun x W h (hW:Below w.heap.size w W) => dshift_any X Y 0 x W h (by omega) (by omega) (by omega) (hT.mono hW)
 rw [t1,t2,t3] at g5
 clear r2 r3 hwk hq0 hN0 em ex z1 z2 hen f1 f2 f3 f4 f5 t1 t2 t3 s1 s2 s3 hX hY hq hqm q0 q1 hp hT hF h0 h1 h2 lm ln he hg hv hv2 hx hy
 generalize upM q (p:Int) = UM at *
 generalize upE q (p:Int) = UE at *
 have G1:=Hd9 g1
 have G2:=Hd9 g2
 have G3:=Hd9 g3
 have G4:=Hd9 g4
 have G5:=Hd9 g5
 clear g1 g2 g3 g4 g5
 go_enter Tryz.func120,Tryz.ntmps120
 have L:=(((L0.varD (w.heap.size) (by simp) (ng M) A (zl M) c E).varD (w.heap.size + 1) (by simp) (ng N) B (zl N) d G).varD (w.heap.size + 2) (by simp) false none 0 0 0)
 (try go_wp2_with fail)
 refine (GS.out _).mono ?_
 rintro e9 w' ⟨rfl,rfl⟩
 obtain ⟨c20,c21,c22⟩:=L.tl.tl.b0.a3
 (try go_wp2_with fail)
 refine (G1.out _ _ (isD_n (m:=M) (e:=E) (s:=.slice A (zl M) c) (L.getN (by simp))) L.below).mono ?_
 rintro e w1 ⟨v9,rfl,iz,be⟩
 clear c20 c21 c22
 obtain ⟨A1,c1,rfl,_,in9⟩:=iz.form
 replace L:=(L.step be).n in9
 clear be iz in9
 have hl9:=L.b0.lt
 replace L:=L.varD w1.heap.size rfl (ng M) A1 (zl M) c1 E
 obtain ⟨c00,c01,c02⟩:=L.b0.a3
 (try go_wp2_with fail)
 clear c00 c01 c02
 obtain ⟨g1,hg1⟩:=nm9 (w1.heap.size)
 rw [hg1] at L hl9 ⊢
 clear hg1
 have hl_g1:=hl9
 clear hl9
 obtain ⟨V,hV,L9⟩:=L.name
 rw [hV]
 clear hV L
 have L:=L9
 clear L9
 have Q0:=Hd9 (fun Z (hZ:Below V.heap.size V Z) => (L.b0.mono hZ).c30)
 have Q1:=Hd9 (fun Z (hZ:Below V.heap.size V Z) => (L.b0.mono hZ).c31)
 have Q2:=Hd9 (fun Z (hZ:Below V.heap.size V Z) => (L.b0.mono hZ).c32)
 have Q3:=Hd9 (fun Z (hZ:Below V.heap.size V Z) => (L.tl.tl.b0.mono hZ).c30)
 have Q4:=Hd9 (fun Z (hZ:Below V.heap.size V Z) => (L.tl.tl.b0.mono hZ).c31)
 have Q5:=Hd9 (fun Z (hZ:Below V.heap.size V Z) => (L.tl.tl.b0.mono hZ).c32)
 have hb0:=L.b0.lt
 have hb1:=L.tl.tl.b0.lt
 have D0:Dq V V [(.slice A1 (zl M) c1,(M:Int).natAbs),(.slice B (zl N) d,(N:Int).natAbs)] [] [] []:=⟨(((Lq.mk0 V).n (L.getN (v:=.slice B (zl N) d) (x:=(N:Int).natAbs) (by simp))).n (L.getN (v:=.slice A1 (zl M) c1) (x:=(M:Int).natAbs) (by simp))),List.nodup_nil,fun p hp => by cases hp⟩
 have D:=D0.drew
 have hVw:=L.below.size
 have HVW:=Hd9 (fun Z (hZ:Below V.heap.size V Z) => L.below.trans (hZ.mono hVw))
 have LL:=Hd9 L
 clear L
 obtain ⟨K,hK⟩:=nm9 (V.heap.size)
 have hz0:K≤V.heap.size:=by omega
 have hmd:V.drew.heap.size = K:=hK
 have hc0:g1 < K:=by omega
 have hc1:w.heap.size + 1 < K:=by omega
 go_cut [11,12] from 26 to 34 (fun s0 s1 wx => s1 = .int .i64 0∧Made1I V X Y UM UE s0 wx)
 case first =>
  go_region_held3 (fun w' => w'.cell? ⟨g1,0,none⟩ = some (.bool (ng M))∧w'.cell? ⟨g1,1,none⟩ = some (.slice A1 (zl M) c1)∧w'.cell? ⟨g1,2,none⟩ = some (.int .i64 E)∧w'.cell? ⟨w.heap.size + 1,0,none⟩ = some (.bool (ng N))∧w'.cell? ⟨w.heap.size + 1,1,none⟩ = some (.slice B (zl N) d)∧w'.cell? ⟨w.heap.size + 1,2,none⟩ = some (.int .i64 G)) (((try dsimp only);refine ⟨?_,?_,?_,?_,?_,?_⟩ <;> (repeat (first | (with_reducible exact Q0.out _ D.lq.below) | (with_reducible exact Q0.out _ D0.lq.below) | (with_reducible exact Q1.out _ D.lq.below) | (with_reducible exact Q1.out _ D0.lq.below) | (with_reducible exact Q2.out _ D.lq.below) | (with_reducible exact Q2.out _ D0.lq.below) | (with_reducible exact Q3.out _ D.lq.below) | (with_reducible exact Q3.out _ D0.lq.below) | (with_reducible exact Q4.out _ D.lq.below) | (with_reducible exact Q4.out _ D0.lq.below) | (with_reducible exact Q5.out _ D.lq.below) | (with_reducible exact Q5.out _ D0.lq.below) | (with_reducible refine c_alloc _ ?_) | (with_reducible refine c_drew ?_) | (with_reducible refine c_set ?_ (by assumption) ?_) | omega)))) (first | (go_at_call 171;(with_reducible refine (G2.out _ _ ?_).mono ?_);(· (first | (with_reducible refine isD_n (D.getN ?_);(repeat (first | (with_reducible exact mS) | apply mT))) | (with_reducible refine isD_n ((D.boxI false none 0 0 0 false none 0 0 0).getN ?_);(repeat (first | (with_reducible exact mS) | apply mT))) | (with_reducible refine isD_n ((D0.boxI false none 0 0 0 false none 0 0 0).drew.getN ?_);(repeat (first | (with_reducible exact mS) | apply mT)))));rintro e9 wh ⟨vh,rfl,ii,be⟩;obtain ⟨A2,c2,B2,d2,rfl,ia,ib⟩:=ii.form;(first | (replace D:=D.step be) | (replace D:=(D.boxMI hmd false none 0 0 0 false none 0 0 0).step be) | (replace D:=(D.boxI false none 0 0 0 false none 0 0 0).step be));have hz:=be.size;(try simp at hz);replace D:=(D.n ib).n ia;(try (obtain ⟨x00,x01,x02,x03,x04,x05⟩:=D.lq.b0.a6;obtain ⟨y00,y01,y02,y03,y04,y05⟩:=D.lq.b0.f6));(try obtain ⟨na,nb,nc,nd,nl⟩:=D.n0)) | (go_at_call 171;(with_reducible refine (G3.out _ _ ?_).mono ?_);(· (first | (with_reducible refine isD_n (D.getN ?_);(repeat (first | (with_reducible exact mS) | apply mT))) | (with_reducible refine isD_n ((D.boxI false none 0 0 0 false none 0 0 0).getN ?_);(repeat (first | (with_reducible exact mS) | apply mT))) | (with_reducible refine isD_n ((D0.boxI false none 0 0 0 false none 0 0 0).drew.getN ?_);(repeat (first | (with_reducible exact mS) | apply mT)))));rintro e9 wh ⟨vh,rfl,ii,be⟩;obtain ⟨A3,c3,B3,d3,rfl,ia,ib⟩:=ii.form;(first | (replace D:=D.step be) | (replace D:=(D.boxMI hmd false none 0 0 0 false none 0 0 0).step be) | (replace D:=(D.boxI false none 0 0 0 false none 0 0 0).step be));have hz:=be.size;(try simp at hz);replace D:=(D.n ib).n ia;(try (obtain ⟨x00,x01,x02,x03,x04,x05⟩:=D.lq.b0.a6;obtain ⟨y00,y01,y02,y03,y04,y05⟩:=D.lq.b0.f6));(try obtain ⟨na,nb,nc,nd,nl⟩:=D.n0)) | (go_at_call 44;(with_reducible refine (G4.out _ _ _ ?_ ?_ ?_).mono ?_);(· (first | (with_reducible refine isI_n (D.getN ?_) (D.getN ?_) <;> (repeat (first | (with_reducible exact mS) | apply mT))) | (with_reducible refine isI_n ((D.boxI false none 0 0 0 false none 0 0 0).getN ?_) ((D.boxI false none 0 0 0 false none 0 0 0).getN ?_) <;> (repeat (first | (with_reducible exact mS) | apply mT))) | (with_reducible refine isI_n ((D0.boxI false none 0 0 0 false none 0 0 0).drew.getN ?_) ((D0.boxI false none 0 0 0 false none 0 0 0).drew.getN ?_) <;> (repeat (first | (with_reducible exact mS) | apply mT)))));(· (first | (with_reducible refine isI_n (D.getN ?_) (D.getN ?_) <;> (repeat (first | (with_reducible exact mS) | apply mT))) | (with_reducible refine isI_n ((D.boxI false none 0 0 0 false none 0 0 0).getN ?_) ((D.boxI false none 0 0 0 false none 0 0 0).getN ?_) <;> (repeat (first | (with_reducible exact mS) | apply mT))) | (with_reducible refine isI_n ((D0.boxI false none 0 0 0 false none 0 0 0).drew.getN ?_) ((D0.boxI false none 0 0 0 false none 0 0 0).drew.getN ?_) <;> (repeat (first | (with_reducible exact mS) | apply mT)))));(· (first | (with_reducible exact HVW.out _ D.lq.below) | (with_reducible exact HVW.out _ (D.boxI false none 0 0 0 false none 0 0 0).lq.below) | (with_reducible exact HVW.out _ (D0.boxI false none 0 0 0 false none 0 0 0).drew.lq.below)));rintro e9 wh ⟨vh,rfl,ii,be⟩;obtain ⟨A4,c4,B4,d4,rfl,ia,ib⟩:=ii.form;(first | (replace D:=D.step be) | (replace D:=(D.boxMI hmd false none 0 0 0 false none 0 0 0).step be) | (replace D:=(D.boxI false none 0 0 0 false none 0 0 0).step be));have hz:=be.size;(try simp at hz);replace D:=(D.n ib).n ia;(try (obtain ⟨x00,x01,x02,x03,x04,x05⟩:=D.lq.b0.a6;obtain ⟨y00,y01,y02,y03,y04,y05⟩:=D.lq.b0.f6));(try obtain ⟨na,nb,nc,nd,nl⟩:=D.n0)))
  all_goals
   go_wp2_with fail
   go_meet
   refine ⟨rfl,?_⟩
   first
   | ((with_reducible refine made1i_a D ?_ ?_) <;> (repeat (first | (with_reducible exact mS) | apply mT)))
   | ((with_reducible refine made1i_b D ?_ ?_) <;> (repeat (first | (with_reducible exact mS) | apply mT)))
 case rest =>
  obtain ⟨rfl,g2,A5,c5,B5,d5,rfl,hg9,bw,hb9,q1,q2⟩:=hcut
  have L:=(((LL.out.step bw).n q2).n q1).b hb9
  have hl_g2:=hg9
  clear D D0 hmd LL hb9 q1 q2 bw hg9 HVW Q0 Q1 Q2 Q3 Q4 Q5 hc0 hc1
  generalize wc = wd1 at *
  obtain ⟨c00,c01,c02,c03,c04,c05⟩:=L.b0.a6
  (try go_wp2_with fail)
  refine (G5.out _ _ (isD_n (m:=X) (e:=Y) (s:=.slice A5 (zl X) c5) (L.getN (by simp))) L.below).mono ?_
  rintro e w3 ⟨v9,rfl,iz,be⟩
  clear c00 c01 c02 c03 c04 c05
  obtain ⟨A6,c6,rfl,_,in9⟩:=iz.form
  replace L:=(L.step be).n in9
  clear be iz in9
  have hl9:=L.b0.lt
  have L9:=L.subx (ns':=[(.slice A6 (zl X) c6,X.natAbs)]) (bs':=[(w.heap.size + 1 + 1,26,#[.bool false,.slice none 0 0,.int .i64 0])]) (by simp) (by simp)
  clear L
  have L:=L9
  clear L9
  have n9:w.heap.size + 1 + 1 ≠ w3.heap.size:=by omega
  obtain ⟨c00,c01,c02⟩:=L.b0.a3
  obtain ⟨f00,f01,f02⟩:=L.b0.f3
  have LN:=L.varD w3.heap.size rfl (ng X) A6 (zl X) c6 Y
  obtain ⟨v0,v1,v2⟩:=LN.b0.a3
  obtain ⟨v3,v4,v5⟩:=LN.tl.b0.a3
  obtain ⟨v6,v7,v8⟩:=LN.tl.b0.f3
  go_wp2_with fail
  clear c00 f00 c01 f01 c02 f02
  clear v0 v1 v2 v3 v4 v5 v6 v7 v8
  clear L
  have L:=LN.swap
  clear LN
  have LP:=L.putD (by omega) (by first | (simp;done) | (simp;omega)) (ng X) A6 (zl X) c6 (Y)
  obtain ⟨k0,k1,k2⟩:=LP.b0.a3
  unfold put3 at k0 k1 k2
  exact bodyPost_ret (v:=.agg #[.bool (ng X),.slice A6 (zl X) c6,.int .i64 (Y)]) (by simp [results,Tryz.results120,go_sem,k0,k1,k2]) rfl ⟨_,rfl,isD_n (LP.getN (by simp)),LP.below⟩

theorem rdperm_any (p:Int) (w:World) :
  Calls Tryz.prog 267 #[.int .i64 p] w (fun e w' => e = .returned (.bool (workB p))∧w = w'):=by
 unfold workB
 by_cases q1:0≤p
 ·have b1:decide (0≤p) = true:=decide_eq_true q1
  rw [b1,Bool.true_and]
  go_enter Tryz.func267,Tryz.ntmps267
  go_wp2_with fail
  go_ret
  exact ⟨rfl,rfl⟩
 ·have b1:decide (0≤p) = false:=decide_eq_false q1
  rw [b1,Bool.false_and]
  go_enter Tryz.func267,Tryz.ntmps267
  go_wp2_with fail
  go_ret
  exact ⟨rfl,rfl⟩
theorem dsqrtf_any (m e k:Int) (vx:Value) (w:World) (hx:IsD w vx m e) (lm:zl m≤400) (he:-10000≤e∧e≤10000) (hv:Dv m e) (hk1:-9223372036854775808≤k) (hk2:k≤9223372036854775807) (hT:Tab w) :
  Calls Tryz.prog 252 #[vx,.int .i64 k] w (RetSf w m e k):=by
 obtain ⟨A,c,rfl,_,hn1⟩:=hx.form
 have L0:=(Lq.mk0 w).n hn1
 have HW0:=fun W => rdperm_any k W
 unfold RetSf
 cases hw:workB k
 ·rw [if_neg (by decide)]
  rw [hw] at HW0
  have HW:=Hd9 HW0
  clear HW0 hx hn1 hw lm he hT
  go_enter Tryz.func252,Tryz.ntmps252
  go_wp2_with fail
  have L:=((L0.varD (w.heap.size) (by simp) (ng m) A (zl m) c e).varD (w.heap.size + 1) (by simp) false none 0 0 0)
  obtain ⟨c00,c01,c02⟩:=L.b0.a3
  obtain ⟨f00,f01,f02⟩:=L.b0.f3
  obtain ⟨c10,c11,c12⟩:=L.tl.b0.a3
  (try go_wp2_with fail)
  refine (HW.out _).mono ?_
  rintro e9 w' ⟨rfl,rfl⟩
  (try go_wp2_with fail)
  exact bodyPost_ret (v:=.tuple #[.agg #[.bool false,.slice none 0 0,.int .i64 0],.int .i64 1]) (by simp [results,Tryz.results252,go_sem,c00,c01,c02]) rfl (RetDE.z L.below _)
 ·rw [if_pos rfl]
  rw [hw] at HW0
  have HW:=Hd9 HW0
  have g1:=fun v W h => dsign_any m e v W h (by omega)
  have hc:=cmp_neg0 m
  obtain ⟨x1,hx1⟩:=nm9 (cmpI m 0)
  rw [hx1] at g1 hc
  have H1:=Hd9 g1
  clear HW0 g1 hx1
  by_cases hm:m < 0
  ·rw [if_pos hm]
   have b1:decide (x1 < 0) = true:=decide_eq_true (hc.2 hm)
   clear hx hn1 hw lm he hT hc
   go_enter Tryz.func252,Tryz.ntmps252
   go_wp2_with fail
   have L:=((L0.varD (w.heap.size) (by simp) (ng m) A (zl m) c e).varD (w.heap.size + 1) (by simp) false none 0 0 0)
   obtain ⟨c00,c01,c02⟩:=L.b0.a3
   obtain ⟨f00,f01,f02⟩:=L.b0.f3
   obtain ⟨c10,c11,c12⟩:=L.tl.b0.a3
   (try go_wp2_with fail)
   refine (HW.out _).mono ?_
   rintro e9 w' ⟨rfl,rfl⟩
   (try go_wp2_with fail)
   refine (H1.out _ _ (isD_n (m:=m) (e:=e) (s:=.slice A (zl m) c) (L.getN (v:=.slice A (zl m) c) (x:=(m).natAbs) (by simp)))).mono ?_
   rintro e w1 ⟨rfl,be⟩
   clear c00 f00 c01 f01 c02 f02 c10 c11 c12
   replace L:=L.step be
   clear be
   obtain ⟨c00,c01,c02⟩:=L.b0.a3
   obtain ⟨f00,f01,f02⟩:=L.b0.f3
   obtain ⟨c10,c11,c12⟩:=L.tl.b0.a3
   (try go_wp2_with fail)
   have LP:=L.putD (by omega) (by first | (simp;done) | (simp;omega)) (false) none (0) 0 (0)
   obtain ⟨k0,k1,k2⟩:=LP.b0.a3
   unfold put3 at k0 k1 k2
   exact bodyPost_ret (v:=.tuple #[.agg #[.bool (false),.slice none (0) 0,.int .i64 (0)],.int .i64 4]) (by simp [results,Tryz.results252,go_sem,k0,k1,k2]) rfl (RetDE.z LP.below _)
  ·rw [if_neg hm]
   have b1:decide (x1 < 0) = false:=decide_eq_false (fun h => hm (hc.1 h))
   obtain ⟨s0,s1,s2,_,s4,s5,_⟩:=sq_size lm he (Int.not_lt.1 hm) hw
   obtain ⟨_,k0,k1⟩:=work_perm hw
   have p2:permB (2 * k) = true:=by unfold permB;rw [decide_eq_true (show -2048≤2 * k by omega),decide_eq_true (show 2 * k≤8192 by omega)];rfl
   have g2:=fun v W h (hW:Below w.heap.size w W) => gfloor_any m e (2 * k) v W h (by omega) (by omega) (by omega) (by omega) (hT.mono hW)
   rw [(g_yes p2 _).1,(g_yes p2 _).2.1,(g_yes p2 _).2.2,s4] at g2
   obtain ⟨t,t1,t2,t3⟩:=mk_shl (by omega) s4
   have z2:=zl_mk (cutQ (dq m e) (2 * k)) (-(2 * k))
   have g3:=fun v W h => zshl_any (mkM (cutQ (dq m e) (2 * k)) (-(2 * k))) v W h (by omega) t (by omega)
   rw [t2] at g3
   have g4:=fun v W h => sqrt_any (cutQ (dq m e) (2 * k)).natAbs v W h (show len (cutQ (dq m e) (2 * k)).natAbs≤10000 from Nat.le_trans s1 (by omega))
   have g5:=fun v W h => znn_any (rt 2 (cutQ (dq m e) (2 * k)).natAbs) v W h (show len (rt 2 (cutQ (dq m e) (2 * k)).natAbs)≤1000000 from Nat.le_trans s2 (by omega))
   have g6:=fun v W h (hW:Below w.heap.size w W) => dmake_any (sqR (dq m e) k) (-k) v W h (by omega) (hT.mono hW)
   rw [s5] at g6
   have e1:(rt 2 (cutQ (dq m e) (2 * k)).natAbs:Int) = sqR (dq m e) k:=rfl
   rw [e1] at g5
   have bE:=mkE_in (cutQ (dq m e) (2 * k)) (2 * k) (by omega)
   obtain ⟨k2,hk2'⟩:=nm9 (2 * k)
   have w1:IntKind.i64.wrap (2 * k) = k2:=by rw [IntKind.wrap_i64];omega
   rw [hk2'] at g2 g3 g4 g5 t1 bE s1 z2
   obtain ⟨C,hC⟩:=nm9 (cutQ (dq m e) k2)
   rw [hC] at g2 g3 g4 g5 t1 bE s1 z2
   obtain ⟨M,hM⟩:=nm9 (mkM C (-k2))
   obtain ⟨E,hE⟩:=nm9 (mkE C (-k2))
   rw [hM] at g2 g3
   rw [hE] at g2 t1 bE
   have w2:IntKind.i64.wrap (E + k2) = (t:Int):=by rw [IntKind.wrap_i64];omega
   obtain ⟨j,hj⟩:=nm9 (-k)
   have w3:IntKind.i64.wrap (-k) = j:=by rw [IntKind.wrap_i64];omega
   rw [hj] at g6 ⊢
   obtain ⟨R,hR⟩:=nm9 (sqR (dq m e) k)
   rw [hR] at g5 g6 ⊢
   obtain ⟨N,hN⟩:=nm9 (mkM R j)
   obtain ⟨G,hG⟩:=nm9 (mkE R j)
   rw [hN,hG] at g6 ⊢
   obtain ⟨rr,hrr⟩:=nm9 (rt 2 C.natAbs)
   obtain ⟨rs,hrs⟩:=nm9 (C.natAbs - rt 2 C.natAbs * rt 2 C.natAbs)
   rw [hrs,hrr] at g4
   rw [hrr] at g5
   have H2:=Hd9 g2
   have H3:=Hd9 g3
   have H4:=Hd9 g4
   have H5:=Hd9 g5
   have H6:=Hd9 g6
   clear g2 g3 g4 g5 g6 e1 hC hM hE hR hN hG hrr hrs hj hk2' hx hn1 hw lm he hT hc s0 s1 s2 s4 s5 k0 k1 p2 t1 t2 t3 z2 bE hm
   go_enter Tryz.func252,Tryz.ntmps252
   go_wp2_with fail
   have L:=((L0.varD (w.heap.size) (by simp) (ng m) A (zl m) c e).varD (w.heap.size + 1) (by simp) false none 0 0 0)
   obtain ⟨c00,c01,c02⟩:=L.b0.a3
   obtain ⟨f00,f01,f02⟩:=L.b0.f3
   obtain ⟨c10,c11,c12⟩:=L.tl.b0.a3
   (try go_wp2_with fail)
   refine (HW.out _).mono ?_
   rintro e9 w' ⟨rfl,rfl⟩
   (try go_wp2_with fail)
   refine (H1.out _ _ (isD_n (m:=m) (e:=e) (s:=.slice A (zl m) c) (L.getN (v:=.slice A (zl m) c) (x:=(m).natAbs) (by simp)))).mono ?_
   rintro e w1 ⟨rfl,be⟩
   clear c00 f00 c01 f01 c02 f02 c10 c11 c12
   replace L:=L.step be
   clear be
   obtain ⟨c00,c01,c02⟩:=L.b0.a3
   obtain ⟨f00,f01,f02⟩:=L.b0.f3
   obtain ⟨c10,c11,c12⟩:=L.tl.b0.a3
   (try go_wp2_with fail)
   refine (H2.out _ _ (isD_n (m:=m) (e:=e) (s:=.slice A (zl m) c) (L.getN (v:=.slice A (zl m) c) (x:=(m).natAbs) (by simp))) L.below).mono ?_
   rintro e w2 ⟨vv,rfl,id,be⟩
   clear c00 f00 c01 f01 c02 f02 c10 c11 c12
   obtain ⟨A8,c8,rfl,_,in9⟩:=id.form
   replace L:=(L.step be).n in9
   clear be id in9
   have hlg8:=L.b0.lt
   replace L:=L.varD w2.heap.size rfl (ng M) A8 (zl M) c8 E
   obtain ⟨cel00,cel01,cel02⟩:=L.b0.a3
   go_wp2_with fail
   obtain ⟨g8,hg⟩:=nm9 (w2.heap.size)
   rw [hg] at L hlg8 cel00 cel01 cel02 ⊢
   clear hg
   clear cel00 cel01 cel02
   refine (H3.out _ _ (isZ_n (z:=M) (s:=.slice A8 (zl M) c8) (L.getN (by simp)))).mono ?_
   rintro e w3 ⟨vv,rfl,iz,be⟩
   replace L:=(L.step be).z iz
   obtain ⟨A7,c7,rfl,in9⟩:=iz.form
   replace L:=L.n in9
   clear be iz in9
   have hlg7:=L.b0.lt
   replace L:=L.varZ w3.heap.size rfl (ng C) A7 (zl C) c7
   obtain ⟨cel00,cel01⟩:=L.b0.a2
   go_wp2_with fail
   obtain ⟨g7,hg⟩:=nm9 (w3.heap.size)
   rw [hg] at L hlg7 cel00 cel01 ⊢
   clear hg
   clear cel00 cel01
   refine (H4.out _ _ (L.getN (v:=.slice A7 (zl C) c7) (x:=C.natAbs) (by simp))).mono ?_
   rintro e w4 ⟨vq,vr,rfl,oq,or_,be⟩
   replace L:=(L.step be).n (isN_of_own oq rfl)
   clear be oq or_
   (try go_wp2_with fail)
   refine (H5.out _ _ (L.getN (v:=vq) (x:=rr) (by simp))).mono ?_
   rintro e w5 ⟨vz,rfl,iz,be⟩
   replace L:=(L.step be).z iz
   clear be iz
   (try go_wp2_with fail)
   refine (H6.out _ _ (L.getZ (by simp)) L.below).mono ?_
   rintro e w6 ⟨vd,rfl,id,be⟩
   obtain ⟨A9,c9,rfl,_,in9⟩:=id.form
   replace L:=(L.step be).n in9
   clear be id in9
   replace L:=L.pick [(w.heap.size + 1,26,#[.bool false,.slice none 0 0,.int .i64 0])] (by simp)
   obtain ⟨c00,c01,c02⟩:=L.b0.a3
   obtain ⟨f00,f01,f02⟩:=L.b0.f3
   go_wp2_with fail
   have LP:=L.putD (by omega) (by first | (simp;done) | (simp;omega)) (ng N) A9 (zl N) c9 (G)
   obtain ⟨k0,k1,k2⟩:=LP.b0.a3
   unfold put3 at k0 k1 k2
   exact bodyPost_ret (v:=.tuple #[.agg #[.bool (ng N),.slice A9 (zl N) c9,.int .i64 (G)],.int .i64 0]) (by simp [results,Tryz.results252,go_sem,k0,k1,k2]) rfl ⟨_,rfl,isD_n (LP.getN (by simp)),LP.below⟩
theorem rec_bd {x:Rat} {p b k:Nat} (h1:1≤x) (hp:k + b = p):cutQ (dq 1 (b:Int) / x) (k:Int) = cutQ (1 / x) (p:Int)∧AbP (cutQ (1 / x) (p:Int)) p∧AbP (-(cutQ (-(dq 1 (b:Int) / x)) (k:Int))) p∧dq (cutQ (1 / x) (p:Int)) (-(p:Int)) * x≤1∧1≤(dq (cutQ (1 / x) (p:Int)) (-(p:Int)) + dq 1 (-(p:Int))) * x∧0≤cutQ (1 / x) (p:Int):=by
 have hx:(0:Rat) < x:=by grind
 have e1:cutQ (dq 1 (b:Int) / x) (k:Int) = cutQ (1 / x) (p:Int):=by
  unfold cutQ
  congr 1
  have:=dq_mul 1 (b:Int) 1 (k:Int)
  rw [Int.one_mul,show (b:Int) + (k:Int) = (p:Int) by omega] at this
  rw [this,Rat.div_def,Rat.div_def]
  grind
 have iv:1 / x * x = 1:=Rat.div_mul_cancel (Rat.ne_of_gt hx)
 have iv1:1 / x≤1:=le_of_mul hx (by rw [iv];grind)
 have iv0:0 < 1 / x:=by
  refine Rat.not_le.1 fun hle => ?_
  have:=Rat.mul_le_mul_of_nonneg_right hle (Rat.le_of_lt hx)
  rw [iv] at this
  grind
 have c1:=cut_lo (1 / x) (p:Int)
 have c2:=cut_hi (1 / x) (p:Int)
 have hu:=dq_pos (-(p:Int))
 have one:dq (2 ^ p) (-(p:Int)) = 1:=by rw [dq_scale];exact two_cast p
 have nn:0≤cutQ (1 / x) (p:Int):=by
  refine Int.not_lt.1 fun hlt => ?_
  have:=(dq_le_iff (cutQ (1 / x) (p:Int) + 1) 0 (-(p:Int))).2 (by omega)
  rw [dq_succ,dq_zero] at this
  grind
 have up:cutQ (1 / x) (p:Int)≤2 ^ p:=(dq_le_iff _ _ (-(p:Int))).1 (by rw [one];exact Rat.le_trans c1 iv1)
 have ab:∀ y:Int,0≤y → y≤2 ^ p → AbP y p:=fun y h0 h9 => by
  unfold AbP
  have:((2 ^ p:Nat):Int) = 2 ^ p:=by push_cast;rfl
  omega
 refine ⟨e1,ab _ nn up,?_,?_,?_,nn⟩
 ·have d1:=cut_lo (-(dq 1 (b:Int) / x)) (k:Int)
  have d2:=cut_hi (-(dq 1 (b:Int) / x)) (k:Int)
  have hb:=dq_pos (b:Int)
  have q1:dq 1 (b:Int) / x≤dq 1 (b:Int):=by
   refine le_of_mul hx ?_
   rw [Rat.div_mul_cancel (Rat.ne_of_gt hx)]
   have:=Rat.mul_le_mul_of_nonneg_left h1 (Rat.le_of_lt hb)
   grind
  have q0:0≤dq 1 (b:Int) / x:=by
   refine le_of_mul hx ?_
   rw [Rat.div_mul_cancel (Rat.ne_of_gt hx),Rat.zero_mul]
   exact Rat.le_of_lt hb
  refine ab _ ?_ ?_
  ·have:=(dq_le_iff (cutQ (-(dq 1 (b:Int) / x)) (k:Int)) 0 (-(k:Int))).1 (by rw [dq_zero];grind)
   omega
  ·have e:dq (-(2 ^ p)) (-(k:Int)) = -dq 1 (b:Int):=by
    rw [dq_neg]
    congr 1
    refine dq_eq (F := -(k:Int)) ?_ (by omega) (by omega)
    rw [show (-(k:Int) - -(k:Int)).toNat = 0 by omega,show ((b:Int) - -(k:Int)).toNat = p by omega]
    simp
   have h9:dq (-(2 ^ p)) (-(k:Int)) < dq (cutQ (-(dq 1 (b:Int) / x)) (k:Int) + 1) (-(k:Int)):=by
    rw [e,dq_succ]
    grind
   have h8:¬ (cutQ (-(dq 1 (b:Int) / x)) (k:Int) + 1≤-(2 ^ p)):=fun h => Rat.not_le.2 h9 ((dq_le_iff _ _ _).2 h)
   omega
 ·have:=Rat.mul_le_mul_of_nonneg_right c1 (Rat.le_of_lt hx)
  rw [iv] at this
  exact this
 ·have:=Rat.mul_le_mul_of_nonneg_right (Rat.le_of_lt c2) (Rat.le_of_lt hx)
  rw [iv] at this
  exact this
theorem near_bd (q:Rat) (p:Nat) {Mi:Int} (h:(cutQ q ((p:Int) + 1) + 1) / 2 = Mi):q≤dq Mi (-(p:Int)) + dq 1 (-(p:Int))∧dq Mi (-(p:Int))≤q + dq 1 (-(p:Int)):=by
 have c1:=cut_lo q ((p:Int) + 1)
 have c2:=cut_hi q ((p:Int) + 1)
 obtain ⟨c,hc⟩:=nm9 (cutQ q ((p:Int) + 1))
 rw [hc] at h c1 c2
 have e:∀ X:Int,dq X (-(p:Int)) = dq (2 * X) (-((p:Int) + 1)):=fun X => by
  refine dq_eq (F := -((p:Int) + 1)) ?_ (by omega) (by omega)
  rw [show (-(p:Int) - -((p:Int) + 1)).toNat = 1 by omega,show (-((p:Int) + 1) - -((p:Int) + 1)).toNat = 0 by omega]
  omega
 rw [e Mi,e 1,← dq_succ] at *
 have hv:=dq_pos (-((p:Int) + 1))
 have h1:=(dq_le_iff (c + 1) (2 * Mi + 1) (-((p:Int) + 1))).2 (by omega)
 have h2:=(dq_le_iff (2 * Mi) (c + 1) (-((p:Int) + 1))).2 (by omega)
 have e2:dq (2 * 1) (-((p:Int) + 1)) = dq 1 (-((p:Int) + 1)) + dq 1 (-((p:Int) + 1)):=by
  rw [← dq_addI];rfl
 rw [e2]
 rw [dq_succ] at h1 h2 c2
 rw [dq_succ] at h1
 generalize dq c (-((p:Int) + 1)) = x at *
 generalize dq (2 * Mi) (-((p:Int) + 1)) = y at *
 generalize dq 1 (-((p:Int) + 1)) = v at *
 clear e e2 hc
 constructor <;> grind
theorem abp_in {y:Int} {p:Nat} (h0:-(2 ^ p)≤y) (h:y≤2 ^ p):AbP y p:=by
 unfold AbP
 have:((2 ^ p:Nat):Int) = 2 ^ p:=by push_cast;rfl
 omega
theorem dq_abp {y:Int} {p:Nat} (h0:-1≤dq y (-(p:Int))) (h:dq y (-(p:Int))≤1):AbP y p:=by
 refine abp_in ((dq_le_iff _ _ (-(p:Int))).1 ?_) ((dq_le_iff _ _ (-(p:Int))).1 ?_)
 ·rw [dq_neg,one_p];exact h0
 ·rw [one_p];exact h
theorem u1000 {p:Nat} (h:32≤p):dq 1 (-(p:Int))≤1 / 1000:=by
 refine Rat.le_trans (dq_anti (a := -(p:Int)) (b := -10) (by omega)) ?_
 decide +kernel
theorem nxc {T x:Int} {j:Nat} (B:Int) (h:AbP T j) (hj:j≤20000) (hx:-4500≤x∧x≤0) (hB0:0≤B) (hB:x + (j:Int) + 32≤B) :
  mkR T x = 0∧zl (mkM T x)≤j / 32 + 1∧(-4500≤mkE T x∧mkE T x≤B)∧Dv (mkM T x) (mkE T x)∧dq (mkM T x) (mkE T x) = dq T x:=by
 obtain ⟨a1,a2,a3,a4,a5⟩:=nx (x:=x) h hj (by omega)
 exact ⟨a1,a2,by omega,a4,a5⟩
theorem nx_sub {s t x:Int} {j:Nat} (h1:AbP s j) (h2:AbP t j) (hj:j≤6000) (hx:-6000≤x∧x≤100) :
  mkR (addS (mkM s x) (mkE s x) (-(mkM t x)) (mkE t x)) (min (mkE s x) (mkE t x)) = 0 ∧
  mkM (addS (mkM s x) (mkE s x) (-(mkM t x)) (mkE t x)) (min (mkE s x) (mkE t x)) = mkM (s - t) x ∧
  mkE (addS (mkM s x) (mkE s x) (-(mkM t x)) (mkE t x)) (min (mkE s x) (mkE t x)) = mkE (s - t) x:=by
 obtain ⟨a1,a2,a3,a4,a5⟩:=nx (x:=x) h1 (by omega) (by omega)
 obtain ⟨b1,b2,b3,b4,b5⟩:=nx (x:=x) h2 (by omega) (by omega)
 have hn:=zl_neg (mkM t x)
 have hz:=zl_addS (mkM s x) (mkE s x) (-(mkM t x)) (mkE t x) 7500 (by omega) (by omega)
 obtain ⟨c1,_⟩:=nx (x:=x) (h1.add h2.neg) (by omega) (by omega)
 rw [← Int.sub_eq_add_neg] at c1
 have hr:mkR (addS (mkM s x) (mkE s x) (-(mkM t x)) (mkE t x)) (min (mkE s x) (mkE t x)) = 0:=mk_fits9 (by omega) (by omega) (by omega)
 exact ⟨hr,mk_uniq hr c1 (by rw [dq_add,dq_neg,a5,b5,Int.sub_eq_add_neg,dq_addI,dq_neg])⟩
structure LgN (q:Rat) (p:Nat) (Mi R Z Q:Int):Prop where
 mi:(cutQ q ((p:Int) + 1) + 1) / 2 = Mi
 r:cutQ (1 / dq (Mi + 2 ^ p) (-(p:Int))) (p:Int) = R
 z:cutQ (dq (Mi - 2 ^ p) (-(p:Int)) * dq R (-(p:Int))) (p:Int) = Z
 q:cutQ (dq Z (-(p:Int)) * dq Z (-(p:Int))) (p:Int) = Q
structure LgB (q:Rat) (p:Nat) (Mi R Z Q:Int):Prop where
 d1:q≤dq Mi (-(p:Int)) + dq 1 (-(p:Int))
 d2:dq Mi (-(p:Int))≤q + dq 1 (-(p:Int))
 r1:dq R (-(p:Int)) * (dq Mi (-(p:Int)) + 1)≤1
 r2:1≤(dq R (-(p:Int)) + dq 1 (-(p:Int))) * (dq Mi (-(p:Int)) + 1)
 z1:dq Z (-(p:Int))≤(dq Mi (-(p:Int)) - 1) * dq R (-(p:Int))
 z2:(dq Mi (-(p:Int)) - 1) * dq R (-(p:Int))≤dq Z (-(p:Int)) + dq 1 (-(p:Int))
 z3:-(1 / 4)≤dq Z (-(p:Int))
 z4:dq Z (-(p:Int))≤1 / 4
 q1:dq Q (-(p:Int))≤dq Z (-(p:Int)) * dq Z (-(p:Int))
 q2:dq Z (-(p:Int)) * dq Z (-(p:Int))≤dq Q (-(p:Int)) + dq 1 (-(p:Int))
 am:AbP Mi (p + 1)
 aA:AbP (Mi + 2 ^ p) (p + 2)
 aB:AbP (Mi - 2 ^ p) (p + 2)
 a1:1≤dq (Mi + 2 ^ p) (-(p:Int))
 aR:AbP R p
 aZ:AbP Z p
 q0:0≤Q
 q16:16 * Q < 2 ^ p
theorem LgN.all {q:Rat} {p:Nat} {Mi R Z Q:Int} (h:LgN q p Mi R Z Q) (hq1:3 / 4≤q) (hq2:q≤3 / 2) (hp:32≤p):LgB q p Mi R Z Q:=by
 obtain ⟨h1,h2,h3,h4⟩:=h
 have hu:=dq_pos (-(p:Int))
 have hu1:=u1000 hp
 obtain ⟨d1,d2⟩:=near_bd q p h1
 have eA:dq (Mi + 2 ^ p) (-(p:Int)) = dq Mi (-(p:Int)) + 1:=by rw [dq_addI,one_p]
 have eB:dq (Mi - 2 ^ p) (-(p:Int)) = dq Mi (-(p:Int)) - 1:=by rw [Int.sub_eq_add_neg,dq_addI,dq_neg,one_p,Rat.sub_eq_add_neg]
 have a1:1≤dq (Mi + 2 ^ p) (-(p:Int)):=by
  rw [eA]
  generalize dq Mi (-(p:Int)) = x at *
  generalize dq 1 (-(p:Int)) = u at *
  clear h1 h2 h3 h4 eA eB
  grind
 obtain ⟨_,r2,_,r4,r5,r6⟩:=rec_bd (p:=p) (b:=0) (k:=p) a1 (by omega)
 rw [h2] at r2 r4 r5
 rw [eA] at r4 r5
 have z1:=cut_lo (dq (Mi - 2 ^ p) (-(p:Int)) * dq R (-(p:Int))) (p:Int)
 have z2:=cut_hi (dq (Mi - 2 ^ p) (-(p:Int)) * dq R (-(p:Int))) (p:Int)
 rw [h3,eB] at z1 z2
 obtain ⟨z3,z4⟩:=ln_argz4 hq1 hq2 (Rat.le_of_lt hu) hu1 d1 d2 r4 r5 z1 (Rat.le_of_lt z2)
 have q1:=cut_lo (dq Z (-(p:Int)) * dq Z (-(p:Int))) (p:Int)
 have q2:=cut_hi (dq Z (-(p:Int)) * dq Z (-(p:Int))) (p:Int)
 have q0:=cut_nn (rsq_nn (dq Z (-(p:Int)))) (p:=(p:Int))
 rw [h4] at q0 q1 q2
 have zz:dq Z (-(p:Int)) * dq Z (-(p:Int))≤3 / 50:=by
  generalize dq Z (-(p:Int)) = z at *
  rcases (Rat.le_total:0≤z ∨ z≤0) with h | h
  ·have:=rmul_le z4 z4 h (by grind)
   grind
  ·have:=rmul_le (a := -z) (b:=121 / 500) (c := -z) (d:=121 / 500) (by grind) (by grind) (by grind) (by grind)
   grind
 have t2:∀ y:Int,dq y (-(p:Int))≤2 → y≤2 * 2 ^ p:=fun y hy => (dq_le_iff _ _ (-(p:Int))).1 (by
  have e:dq (2 * 2 ^ p) (-(p:Int)) = 2:=by
   rw [dq_scale,Rat.intCast_mul,Rat.mul_assoc,two_cast,Rat.mul_one]
   rfl
  rw [e];exact hy)
 have mb1:Mi≤2 * 2 ^ p:=t2 Mi (by
  generalize dq Mi (-(p:Int)) = x at *
  generalize dq 1 (-(p:Int)) = u at *
  clear h1 h2 h3 h4 eA eB
  grind)
 have mb0:0≤Mi:=(dq_le_iff _ _ (-(p:Int))).1 (by
  rw [dq_zero]
  generalize dq Mi (-(p:Int)) = x at *
  generalize dq 1 (-(p:Int)) = u at *
  clear h1 h2 h3 h4 eA eB
  grind)
 have hp0:=pow2_pos p
 have e1:(2:Int) ^ (p + 1) = 2 * 2 ^ p:=by rw [Int.pow_succ,Int.mul_comm]
 have e2:(2:Int) ^ (p + 2) = 4 * 2 ^ p:=by rw [Int.pow_succ,Int.pow_succ];omega
 refine ⟨d1,d2,r4,r5,z1,Rat.le_of_lt z2,by grind,by grind,q1,Rat.le_of_lt q2,abp_in (by omega) (by omega),abp_in (by omega) (by omega),abp_in (by omega) (by omega),a1,r2,dq_abp (by grind) (by grind),q0,?_⟩
 refine Int.not_le.1 fun hle => ?_
 have h9:=(dq_le_iff _ _ (-(p:Int))).2 hle
 rw [one_p,dq_scale,Rat.intCast_mul,Rat.mul_assoc,← dq_scale] at h9
 have e:((16:Int):Rat) = 16:=rfl
 rw [e] at h9
 generalize dq Q (-(p:Int)) = x at *
 generalize dq Z (-(p:Int)) * dq Z (-(p:Int)) = y at *
 clear h1 h2 h3 h4 eA eB z1 z2 r4 r5
 grind
theorem LgB.gs {q:Rat} {p n:Nat} {Mi R Z Q T G:Int} (h:LgB q p Mi R Z Q) (s:SerOk Q p n T) (hp:32≤p) (hG:cutQ (dq Z (-(p:Int)) * dq T (-(p:Int))) (p:Int) = G):AbP G p:=by
 have hu:=dq_pos (-(p:Int))
 have hu1:=u1000 hp
 have g1:=cut_lo (dq Z (-(p:Int)) * dq T (-(p:Int))) (p:Int)
 have g2:=cut_hi (dq Z (-(p:Int)) * dq T (-(p:Int))) (p:Int)
 rw [hG] at g1 g2
 have q0:=(dq_le_iff 0 Q (-(p:Int))).2 h.q0
 rw [dq_zero] at q0
 have q16:dq Q (-(p:Int))≤1 / 16:=by
  have h1:=(dq_le_iff (16 * Q) (2 ^ p) (-(p:Int))).2 (by have:=h.q16;omega)
  rw [one_p,dq_scale,Rat.intCast_mul,Rat.mul_assoc,← dq_scale] at h1
  have e:((16:Int):Rat) = 16:=rfl
  rw [e] at h1
  generalize dq Q (-(p:Int)) = x at *
  grind
 have t1:=Rat.le_trans s.up (hr_le q0 q16 n 0)
 have t0:=(dq_le_iff 0 T (-(p:Int))).2 s.t0
 rw [dq_zero] at t0
 have b1:=Rat.mul_le_mul_of_nonneg_right h.z4 t0
 have b2:=Rat.mul_le_mul_of_nonneg_right h.z3 t0
 generalize dq Z (-(p:Int)) * dq T (-(p:Int)) = y at *
 generalize dq T (-(p:Int)) = t at *
 refine dq_abp ?_ ?_
 ·generalize dq G (-(p:Int)) = g at *
  clear hG h s q0 q16
  grind
 ·generalize dq G (-(p:Int)) = g at *
  clear hG h s q0 q16
  grind
theorem tsqrt_any (M E S:Int) (p:Nat) (vx:Value) (w:World) (hx:IsD w vx M E) (hv:Dv M E) (lm:zl M≤140) (he:-4000≤E∧E≤4000) (hM:0≤M) (hS:sqR (dq M E) (p:Int) = S) (hb:AbP S (p + 40)) (hp:p≤2000) (hT:Tab w) :
  Calls Tryz.prog 228 #[vx,.int .i64 (p:Int)] w (RetD8 w (mkM S (-(p:Int))) (mkE S (-(p:Int)))):=by
 obtain ⟨A,c,rfl,_,hn⟩:=hx.form
 have L0:=(Lq.mk0 w).n hn
 have gs:=fun W => tsplit_any p W (by omega)
 have GS:=Hd9 gs
 clear gs
 have wz1:IntKind.i64.wrap (-(0:Int)) = 0:=by decide
 have wz2:IntKind.i64.wrap (2 * (0:Int)) = 0:=by decide
 have wz3:IntKind.i64.wrap 0 = 0:=by decide
 obtain ⟨s1,s2,s3⟩:=np_same hv (by omega) (by omega)
 have g1:=fun x W h (hW:Below w.heap.size w W) => dshift_any M E 0 x W h (by omega) (by omega) (by omega) (hT.mono hW)
 rw [s1,s2,s3] at g1
 have hwk:workB (p:Int) = true:=by
  unfold workB
  rw [decide_eq_true (show (0:Int)≤(p:Int) by omega),decide_eq_true (show (p:Int)≤4096 by omega)]
  rfl
 have g2:=fun x W h (hW:Below w.heap.size w W) => dsqrtf_any M E (p:Int) x W h (by omega) (by omega) hv (by omega) (by omega) (hT.mono hW)
 unfold RetSf at g2
 simp only [hwk,if_true,if_neg (show ¬ M < 0 by omega),hS] at g2
 obtain ⟨f1,f2,f3,f4,f5⟩:=nx (x := -(p:Int)) hb (by omega) (by omega)
 obtain ⟨X,hX⟩:=nm9 (mkM S (-(p:Int)))
 obtain ⟨Y,hY⟩:=nm9 (mkE S (-(p:Int)))
 rw [hX] at g2 f2 f4 f5 ⊢
 rw [hY] at g2 f3 f4 f5 ⊢
 obtain ⟨t1,t2,t3⟩:=np_same f4 (by omega) (by omega)
 have g3:=fun x W h (hW:Below w.heap.size w W) => dshift_any X Y 0 x W h (by omega) (by omega) (by omega) (hT.mono hW)
 rw [t1,t2,t3] at g3
 clear hwk f1 f2 f3 f4 f5 t1 t2 t3 s1 s2 s3 hX hY hp hT hS hM hb lm he hv hx
 have G1:=Hd9 g1
 have G2:=Hd9 g2
 have G3:=Hd9 g3
 clear g1 g2 g3
 go_enter Tryz.func228,Tryz.ntmps228
 have L:=((L0.varD (w.heap.size) (by simp) (ng M) A (zl M) c E).varD (w.heap.size + 1) (by simp) false none 0 0 0)
 (try go_wp2_with fail)
 refine (GS.out _).mono ?_
 rintro e9 w' ⟨rfl,rfl⟩
 obtain ⟨c10,c11,c12⟩:=L.tl.b0.a3
 (try go_wp2_with fail)
 refine (G1.out _ _ (isD_n (m:=M) (e:=E) (s:=.slice A (zl M) c) (L.getN (by simp))) L.below).mono ?_
 rintro e w1 ⟨v9,rfl,iz,be⟩
 clear c10 c11 c12
 obtain ⟨A1,c1,rfl,_,in9⟩:=iz.form
 replace L:=(L.step be).n in9
 clear be iz in9
 have hl9:=L.b0.lt
 replace L:=L.varD w1.heap.size rfl (ng M) A1 (zl M) c1 E
 obtain ⟨c00,c01,c02⟩:=L.b0.a3
 (try go_wp2_with fail)
 clear c00 c01 c02
 obtain ⟨g1,hg1⟩:=nm9 (w1.heap.size)
 rw [hg1] at L hl9 ⊢
 clear hg1
 have hl_g1:=hl9
 clear hl9
 refine (G2.out _ _ (isD_n (m:=M) (e:=E) (s:=.slice A1 (zl M) c1) (L.getN (by simp))) L.below).mono ?_
 rintro e w2 ⟨v9,rfl,iz,be⟩
 obtain ⟨A2,c2,rfl,_,in9⟩:=iz.form
 replace L:=(L.step be).n in9
 clear be iz in9
 have hl9:=L.b0.lt
 replace L:=L.varD w2.heap.size rfl (ng X) A2 (zl X) c2 Y
 obtain ⟨c00,c01,c02⟩:=L.b0.a3
 (try go_wp2_with fail)
 clear c00 c01 c02
 obtain ⟨g2,hg2⟩:=nm9 (w2.heap.size)
 rw [hg2] at L hl9 ⊢
 clear hg2
 have hl_g2:=hl9
 clear hl9
 refine (G3.out _ _ (isD_n (m:=X) (e:=Y) (s:=.slice A2 (zl X) c2) (L.getN (by simp))) L.below).mono ?_
 rintro e w3 ⟨v9,rfl,iz,be⟩
 obtain ⟨A6,c6,rfl,_,in9⟩:=iz.form
 replace L:=(L.step be).n in9
 clear be iz in9
 have hl9:=L.b0.lt
 have L9:=L.subx (ns':=[(.slice A6 (zl X) c6,X.natAbs)]) (bs':=[(w.heap.size + 1,26,#[.bool false,.slice none 0 0,.int .i64 0])]) (by simp) (by simp)
 clear L
 have L:=L9
 clear L9
 have n9:w.heap.size + 1 ≠ w3.heap.size:=by omega
 obtain ⟨c00,c01,c02⟩:=L.b0.a3
 obtain ⟨f00,f01,f02⟩:=L.b0.f3
 have LN:=L.varD w3.heap.size rfl (ng X) A6 (zl X) c6 Y
 obtain ⟨v0,v1,v2⟩:=LN.b0.a3
 obtain ⟨v3,v4,v5⟩:=LN.tl.b0.a3
 obtain ⟨v6,v7,v8⟩:=LN.tl.b0.f3
 go_wp2_with fail
 clear c00 f00 c01 f01 c02 f02
 clear v0 v1 v2 v3 v4 v5 v6 v7 v8
 clear L
 have L:=LN.swap
 clear LN
 have LP:=L.putD (by omega) (by first | (simp;done) | (simp;omega)) (ng X) A6 (zl X) c6 (Y)
 obtain ⟨k0,k1,k2⟩:=LP.b0.a3
 unfold put3 at k0 k1 k2
 exact bodyPost_ret (v:=.agg #[.bool (ng X),.slice A6 (zl X) c6,.int .i64 (Y)]) (by simp [results,Tryz.results228,go_sem,k0,k1,k2]) rfl ⟨_,rfl,isD_n (LP.getN (by simp)),LP.below⟩
theorem isq_ab {C S:Int} {p:Nat} (h:SqI C S p) (h0:0≤C) (hC:AbP C (p + 30)):AbP S (p + 31)∧AbP (C + S) (p + 32):=by
 obtain ⟨b1,b2,b3⟩:=h.big h0
 have s0:=h.nn
 have e:(2:Nat) ^ (p + 30) = 2 ^ p * 1073741824:=by rw [Nat.pow_add]
 have e1:(2:Nat) ^ (p + 31) = 2 ^ p * 2147483648:=by rw [Nat.pow_add]
 have e2:(2:Nat) ^ (p + 32) = 2 ^ p * 4294967296:=by rw [Nat.pow_add]
 have ep:((2 ^ p:Nat):Int) = 2 ^ p:=by push_cast;rfl
 have pp:0 < (2:Nat) ^ p:=Nat.pow_pos (by omega)
 unfold AbP at *
 rw [e] at hC
 rw [e1,e2]
 generalize (2:Nat) ^ p = P at *
 rw [← ep] at b2 b3
 constructor <;> omega

theorem thalf_any (C S:Int) (p:Nat) (vx:Value) (w:World) (hx:IsD w vx (mkM C (-(p:Int))) (mkE C (-(p:Int)))) (h0:0≤C) (hC:AbP C (p + 30)) (hS:sqR (dq C (-(p:Int)) * dq C (-(p:Int)) + 1) (p:Int) = S) (hp:p≤1000) (hT:Tab w) :
  Calls Tryz.prog 180 #[vx,.int .i64 (p:Int)] w (RetD8 w (mkM (C + S) (-(p:Int))) (mkE (C + S) (-(p:Int)))):=by
 obtain ⟨A,c,rfl,_,hn⟩:=hx.form
 have L0:=(Lq.mk0 w).n hn
 have hSI:=sqi C p
 rw [hS] at hSI
 obtain ⟨aS,aT⟩:=isq_ab hSI h0 hC
 obtain ⟨n1,n2,n3,n4,n5⟩:=nx (x := -(p:Int)) hC (by omega) (by omega)
 obtain ⟨m1,m2,m3,m4,m5⟩:=nx (x := -(p:Int)) aS (by omega) (by omega)
 obtain ⟨k1,k2,k3,k4,k5⟩:=nx (x := -(p:Int)) aT (by omega) (by omega)
 have g1:=fun x y W h j (hW:Below w.heap.size w W) => dmul_any (mkM C (-(p:Int))) (mkE C (-(p:Int))) (mkM C (-(p:Int))) (mkE C (-(p:Int))) x y W h j (by omega) (by omega) (by omega) (by omega) (hT.mono hW)
 have z1:=zl_mul (mkM C (-(p:Int))) (mkM C (-(p:Int)))
 have r1:mkR ((mkM C (-(p:Int))) * (mkM C (-(p:Int)))) ((mkE C (-(p:Int))) + (mkE C (-(p:Int)))) = 0:=mk_fits9 (by omega) (by omega) (by omega)
 have z2:=zl_mk ((mkM C (-(p:Int))) * (mkM C (-(p:Int)))) ((mkE C (-(p:Int))) + (mkE C (-(p:Int))))
 have z3:=mkE_at r1 (k:=80) (by omega)
 have d1:=dq_mk r1
 rw [dq_mul,n5] at d1
 rw [r1] at g1
 obtain ⟨M1,hM1⟩:=nm9 (mkM ((mkM C (-(p:Int))) * (mkM C (-(p:Int)))) ((mkE C (-(p:Int))) + (mkE C (-(p:Int)))))
 obtain ⟨E1,hE1⟩:=nm9 (mkE ((mkM C (-(p:Int))) * (mkM C (-(p:Int)))) ((mkE C (-(p:Int))) + (mkE C (-(p:Int)))))
 rw [hM1] at g1 z2 d1
 rw [hE1] at g1 z3 d1
 have g2:=fun W (hW:Below w.heap.size w W) => dof_any 1 W (by omega) (by omega) (hT.mono hW)
 have h1z:zl 1≤1:=len_le1 (show 1 < 4294967296 by omega)
 have u1:mkR 1 0 = 0:=mk_fits9 (by omega) (by omega) (by omega)
 have u2:=zl_mk 1 0
 have u3:=mkE_at u1 (k:=1) h1z
 have u4:=dq_mk u1
 have g3:=fun x y W h j (hW:Below w.heap.size w W) => dadd_any M1 E1 (mkM 1 0) (mkE 1 0) x y W h j (by omega) (by omega) (by omega) (by omega) (hT.mono hW)
 have z4:=zl_addS M1 E1 (mkM 1 0) (mkE 1 0) 4300 (by omega) (by omega)
 have r2:mkR (addS M1 E1 (mkM 1 0) (mkE 1 0)) (min E1 (mkE 1 0)) = 0:=mk_fits9 (by omega) (by omega) (by omega)
 have d2:=dq_mk r2
 rw [dq_add,d1,u4,show dq 1 0 = 1 by decide +kernel] at d2
 rw [r2] at g3
 have hv2:=mk_ok r2
 -- the sum on the grid of 2 p
 have e2:dq C (-(p:Int)) * dq C (-(p:Int)) + 1 = dq (C * C + 2 ^ p * 2 ^ p) (-(2 * (p:Int))):=by
  have q1:=dq_mul C (-(p:Int)) C (-(p:Int))
  have q2:=dq_mul (2 ^ p) (-(p:Int)) (2 ^ p) (-(p:Int))
  have q3:dq (2 ^ p) (-(p:Int)) = 1:=by rw [dq_scale];exact two_cast p
  rw [q3,Rat.mul_one] at q2
  rw [dq_addI,show -(2 * (p:Int)) = -(p:Int) + -(p:Int) by omega,q1,q2]
 have aQ:AbP (C * C + 2 ^ p * 2 ^ p) (2 * p + 61):=by
  have a1:=hC.mul hC
  have a2:AbP (2 ^ p * 2 ^ p) (p + p):=AbP.mul (by unfold AbP;rw [Int.natAbs_pow];exact Nat.le_refl _) (by unfold AbP;rw [Int.natAbs_pow];exact Nat.le_refl _)
  exact ((a1.up (k:=2 * p + 60) (by omega)).add (a2.up (k:=2 * p + 60) (by omega)))
 obtain ⟨t1,t2,t3,t4,t5⟩:=nx (x := -(2 * (p:Int))) aQ (by omega) (by omega)
 have un:=mk_uniq r2 t1 (by rw [← dq_mk r2,d2,e2])
 obtain ⟨M2,hM2⟩:=nm9 (mkM (addS M1 E1 (mkM 1 0) (mkE 1 0)) (min E1 (mkE 1 0)))
 obtain ⟨E2,hE2⟩:=nm9 (mkE (addS M1 E1 (mkM 1 0) (mkE 1 0)) (min E1 (mkE 1 0)))
 rw [hM2] at g3 d2 hv2 un
 rw [hE2] at g3 d2 hv2 un
 rw [← un.1] at t2
 rw [← un.2] at t3
 have pos2:0≤M2:=by
  have h9:=(dq_le_iff 0 M2 E2).1 (by rw [dq_zero,d2];have:=rsq_nn (dq C (-(p:Int)));grind)
  exact h9
 have g4:=fun x W h (hW:Below w.heap.size w W) => tsqrt_any M2 E2 S p x W h hv2 (by omega) (by omega) pos2 (by rw [d2];exact hS) (aS.up (by omega)) (by omega) (hT.mono hW)
 have g5:=fun x y W h j (hW:Below w.heap.size w W) => dadd_any (mkM C (-(p:Int))) (mkE C (-(p:Int))) (mkM S (-(p:Int))) (mkE S (-(p:Int))) x y W h j (by omega) (by omega) (by omega) (by omega) (hT.mono hW)
 obtain ⟨y1,y2,y3⟩:=nx_add (x := -(p:Int)) (hC.up (k:=p + 31) (by omega)) aS (by omega) (by omega)
 rw [y1,y2,y3] at g5
 clear y1 y2 y3 un t1 t2 t3 t4 t5 aQ e2 hv2 d2 r2 z4 u1 u2 u3 u4 h1z d1 z3 z2 r1 z1 n1 n2 n3 n4 n5 m1 m2 m3 m4 m5 k1 k2 k3 k4 k5 hSI aS aT pos2 hM1 hE1 hM2 hE2 hS hC h0 hp hT hx hn
 generalize mkM 1 0 = M9 at *
 generalize mkE 1 0 = E9 at *
 generalize mkM (C + S) (-(p:Int)) = MR at *
 generalize mkE (C + S) (-(p:Int)) = ER at *
 generalize mkM S (-(p:Int)) = MS at *
 generalize mkE S (-(p:Int)) = ES at *
 generalize mkM C (-(p:Int)) = MC at *
 generalize mkE C (-(p:Int)) = EC at *
 have G1:=Hd9 g1
 have G2:=Hd9 g2
 have G3:=Hd9 g3
 have G4:=Hd9 g4
 have G5:=Hd9 g5
 clear g1 g2 g3 g4 g5
 go_enter Tryz.func180,Tryz.ntmps180
 have L:=((L0.varD (w.heap.size) (by simp) (ng MC) A (zl MC) c EC).varD (w.heap.size + 1) (by simp) false none 0 0 0)
 obtain ⟨c10,c11,c12⟩:=L.tl.b0.a3
 (try go_wp2_with fail)
 refine (G1.out _ _ _ (isD_n (m:=MC) (e:=EC) (s:=.slice A (zl MC) c) (L.getN (by simp))) (isD_n (m:=MC) (e:=EC) (s:=.slice A (zl MC) c) (L.getN (by simp))) L.below).mono ?_
 rintro e w1 ⟨v9,rfl,iz,be⟩
 clear c10 c11 c12
 obtain ⟨A1,c1,rfl,_,in9⟩:=iz.form
 replace L:=(L.step be).n in9
 clear be iz in9
 have hl9:=L.b0.lt
 replace L:=L.varD w1.heap.size rfl (ng M1) A1 (zl M1) c1 E1
 (try go_wp2_with fail)
 obtain ⟨g1,hg1⟩:=nm9 (w1.heap.size)
 rw [hg1] at L hl9 ⊢
 clear hg1
 have hl_g1:=hl9
 clear hl9
 replace L:=L.drew
 (try go_wp2_with fail)
 have LD:=L
 clear L
 obtain ⟨c00,c01,c02⟩:=LD.b0.a3
 obtain ⟨f00,f01,f02⟩:=LD.b0.f3
 go_cut [] from 15 to 20 (fun wx => ∃ A8 c8,Lq w wx [(.slice A8 (zl M2) c8,M2.natAbs),(.slice A (zl MC) c,MC.natAbs)] [] [] [(g1,26,#[.bool (ng M2),.slice A8 (zl M2) c8,.int .i64 E2]),(w.heap.size + 1,26,#[.bool false,.slice none 0 0,.int .i64 0]),(w.heap.size,26,#[.bool (ng MC),.slice A (zl MC) c,.int .i64 EC])])
 case first =>
  go_region_with (first | (go_at_call 111;(with_reducible refine (G2.out _ LD.below).mono ?_);rintro e9 wh ⟨vh,rfl,id,be⟩;obtain ⟨A7,c7,rfl,_,in9⟩:=id.form;replace LD:=(LD.step be).n in9;clear be id in9;(try (obtain ⟨r0,r1,r2⟩:=LD.b0.a3;obtain ⟨t0,t1,t2⟩:=LD.b0.f3))) | (go_at_call 89;(with_reducible refine (G3.out _ _ _ ?_ ?_ LD.below).mono ?_);(· (refine isD_n (LD.getN ?_) <;> (repeat (first | (with_reducible exact mS) | apply mT))));(· (refine isD_n (LD.getN ?_) <;> (repeat (first | (with_reducible exact mS) | apply mT))));rintro e9 wh ⟨vh,rfl,id,be⟩;obtain ⟨A8,c8,rfl,_,in9⟩:=id.form;replace LD:=(LD.step be).n in9;clear be id in9;(try (obtain ⟨r0,r1,r2⟩:=LD.b0.a3;obtain ⟨t0,t1,t2⟩:=LD.b0.f3))))
  all_goals
   have LP:=LD.putD (by omega) (by first | (simp;done) | (simp;omega)) (ng M2) A8 (zl M2) c8 E2
   unfold put3 at LP
   go_wp2_with fail
   go_meet
   exact ⟨A8,c8,LP.subx (by simp) (by simp)⟩
 case rest =>
  obtain ⟨A8,c8,L⟩:=hcut
  generalize wc = wd0 at *
  clear LD
  have hl_g1:=L.b0.lt
  (try go_wp2_with fail)
  obtain ⟨V,hV,L9⟩:=L.name
  rw [hV]
  clear hV L
  have L:=L9
  clear L9
  have Q0:=Hd9 (fun Z (hZ:Below V.heap.size V Z) => (L.b0.mono hZ).c30)
  have Q1:=Hd9 (fun Z (hZ:Below V.heap.size V Z) => (L.b0.mono hZ).c31)
  have Q2:=Hd9 (fun Z (hZ:Below V.heap.size V Z) => (L.b0.mono hZ).c32)
  have Q3:=Hd9 (fun Z (hZ:Below V.heap.size V Z) => (L.tl.tl.b0.mono hZ).c30)
  have Q4:=Hd9 (fun Z (hZ:Below V.heap.size V Z) => (L.tl.tl.b0.mono hZ).c31)
  have Q5:=Hd9 (fun Z (hZ:Below V.heap.size V Z) => (L.tl.tl.b0.mono hZ).c32)
  have hb0:=L.b0.lt
  have hb1:=L.tl.tl.b0.lt
  have D0:Dq V V [(.slice A8 (zl M2) c8,(M2:Int).natAbs),(.slice A (zl MC) c,(MC:Int).natAbs)] [] [] []:=⟨(((Lq.mk0 V).n (L.getN (v:=.slice A (zl MC) c) (x:=(MC:Int).natAbs) (by simp))).n (L.getN (v:=.slice A8 (zl M2) c8) (x:=(M2:Int).natAbs) (by simp))),List.nodup_nil,fun p hp => by cases hp⟩
  have D:=D0.drew
  have hVw:=L.below.size
  have HVW:=Hd9 (fun Z (hZ:Below V.heap.size V Z) => L.below.trans (hZ.mono hVw))
  have LL:=Hd9 L
  clear L
  obtain ⟨K,hK⟩:=nm9 (V.heap.size)
  have hz0:K≤V.heap.size:=by omega
  have hmd:V.drew.heap.size = K:=hK
  have hc0:g1 < K:=by omega
  have hc1:w.heap.size < K:=by omega
  go_cut [7,8] from 21 to 28 (fun s0 s1 wx => s1 = .int .i64 0∧Made1D V MR ER s0 wx)
  case first =>
   go_region_held3 (fun w' => w'.cell? ⟨g1,0,none⟩ = some (.bool (ng M2))∧w'.cell? ⟨g1,1,none⟩ = some (.slice A8 (zl M2) c8)∧w'.cell? ⟨g1,2,none⟩ = some (.int .i64 E2)∧w'.cell? ⟨w.heap.size,0,none⟩ = some (.bool (ng MC))∧w'.cell? ⟨w.heap.size,1,none⟩ = some (.slice A (zl MC) c)∧w'.cell? ⟨w.heap.size,2,none⟩ = some (.int .i64 EC)) (((try dsimp only);refine ⟨?_,?_,?_,?_,?_,?_⟩ <;> (repeat (first | (with_reducible exact Q0.out _ D.lq.below) | (with_reducible exact Q0.out _ D0.lq.below) | (with_reducible exact Q1.out _ D.lq.below) | (with_reducible exact Q1.out _ D0.lq.below) | (with_reducible exact Q2.out _ D.lq.below) | (with_reducible exact Q2.out _ D0.lq.below) | (with_reducible exact Q3.out _ D.lq.below) | (with_reducible exact Q3.out _ D0.lq.below) | (with_reducible exact Q4.out _ D.lq.below) | (with_reducible exact Q4.out _ D0.lq.below) | (with_reducible exact Q5.out _ D.lq.below) | (with_reducible exact Q5.out _ D0.lq.below) | (with_reducible refine c_alloc _ ?_) | (with_reducible refine c_drew ?_) | (with_reducible refine c_set ?_ (by assumption) ?_) | omega)))) (first | (go_at_call 228;(with_reducible refine (G4.out _ _ ?_ ?_).mono ?_);(· (first | (with_reducible refine isD_n (D.getN ?_);(repeat (first | (with_reducible exact mS) | apply mT))) | (with_reducible refine isD_n ((D.boxD false none 0 0 0).getN ?_);(repeat (first | (with_reducible exact mS) | apply mT))) | (with_reducible refine isD_n ((D0.boxD false none 0 0 0).drew.getN ?_);(repeat (first | (with_reducible exact mS) | apply mT)))));(· (first | (with_reducible exact HVW.out _ D.lq.below) | (with_reducible exact HVW.out _ (D.boxD false none 0 0 0).lq.below) | (with_reducible exact HVW.out _ (D0.boxD false none 0 0 0).drew.lq.below)));rintro e9 wh ⟨vh,rfl,id,be⟩;obtain ⟨A3,c3,rfl,_,in9⟩:=id.form;(first | (replace D:=D.step be) | (replace D:=(D.boxMD hmd false none 0 0 0).step be) | (replace D:=(D.boxD false none 0 0 0).step be));have hz:=be.size;(try simp at hz);replace D:=D.n in9;(try (obtain ⟨x00,x01,x02⟩:=D.lq.b0.a3;obtain ⟨y00,y01,y02⟩:=D.lq.b0.f3));(try obtain ⟨na,nb,nc,nd,nl⟩:=D.n0)) | (go_at_call 89;(with_reducible refine (G5.out _ _ _ ?_ ?_ ?_).mono ?_);(· (first | (with_reducible refine isD_n (D.getN ?_);(repeat (first | (with_reducible exact mS) | apply mT))) | (with_reducible refine isD_n ((D.boxD false none 0 0 0).getN ?_);(repeat (first | (with_reducible exact mS) | apply mT))) | (with_reducible refine isD_n ((D0.boxD false none 0 0 0).drew.getN ?_);(repeat (first | (with_reducible exact mS) | apply mT)))));(· (first | (with_reducible refine isD_n (D.getN ?_);(repeat (first | (with_reducible exact mS) | apply mT))) | (with_reducible refine isD_n ((D.boxD false none 0 0 0).getN ?_);(repeat (first | (with_reducible exact mS) | apply mT))) | (with_reducible refine isD_n ((D0.boxD false none 0 0 0).drew.getN ?_);(repeat (first | (with_reducible exact mS) | apply mT)))));(· (first | (with_reducible exact HVW.out _ D.lq.below) | (with_reducible exact HVW.out _ (D.boxD false none 0 0 0).lq.below) | (with_reducible exact HVW.out _ (D0.boxD false none 0 0 0).drew.lq.below)));rintro e9 wh ⟨vh,rfl,id,be⟩;obtain ⟨A4,c4,rfl,_,in9⟩:=id.form;(first | (replace D:=D.step be) | (replace D:=(D.boxMD hmd false none 0 0 0).step be) | (replace D:=(D.boxD false none 0 0 0).step be));have hz:=be.size;(try simp at hz);replace D:=D.n in9;(try (obtain ⟨x00,x01,x02⟩:=D.lq.b0.a3;obtain ⟨y00,y01,y02⟩:=D.lq.b0.f3));(try obtain ⟨na,nb,nc,nd,nl⟩:=D.n0)))
   all_goals
    go_wp2_with fail
    go_meet
    refine ⟨rfl,?_⟩
    first
    | ((with_reducible refine made1d_a D ?_) <;> (repeat (first | (with_reducible exact mS) | apply mT)))
    | ((with_reducible refine made1d_b D ?_) <;> (repeat (first | (with_reducible exact mS) | apply mT)))
  case rest =>
   obtain ⟨rfl,g2,A9,c9,rfl,hg9,bw,hb9,q1⟩:=hcut
   have L:=((LL.out.step bw).n q1).b hb9
   have hl_g2:=hg9
   clear D D0 hmd LL hb9 q1 bw hg9 HVW Q0 Q1 Q2 Q3 Q4 Q5 hc0 hc1
   generalize wc = wd30 at *
   have hv9:=L.b0
   have hl9:=hv9.lt
   have L9:=L.subx (ns':=[(.slice A9 (zl MR) c9,MR.natAbs)]) (bs':=[(w.heap.size + 1,26,#[.bool false,.slice none 0 0,.int .i64 0]),(g2,26,#[.bool (ng MR),.slice A9 (zl MR) c9,.int .i64 ER])]) (by simp) (by simp)
   clear L hv9
   have L:=L9
   clear L9
   have n9:w.heap.size + 1 ≠ g2:=by omega
   obtain ⟨c00,c01,c02⟩:=L.b0.a3
   obtain ⟨f00,f01,f02⟩:=L.b0.f3
   obtain ⟨c10,c11,c12⟩:=L.tl.b0.a3
   (try go_wp2_with fail)
   clear c00 f00 c01 f01 c02 f02 c10 c11 c12
   have LP:=L.putD (by omega) (by first | (simp;done) | (simp;omega)) (ng MR) A9 (zl MR) c9 (ER)
   obtain ⟨k0,k1,k2⟩:=LP.b0.a3
   unfold put3 at k0 k1 k2
   exact bodyPost_ret (v:=.agg #[.bool (ng MR),.slice A9 (zl MR) c9,.int .i64 (ER)]) (by simp [results,Tryz.results180,go_sem,k0,k1,k2]) rfl ⟨_,rfl,isD_n (LP.getN (by simp)),LP.below⟩

theorem cut_fl (a b:Int) (p:Nat):cutQ (dq a (-(p:Int)) * dq b (-(p:Int))) (p:Int) = a * b / 2 ^ p:=by
 refine cut_unique (dq_fl a b p).1 ?_
 have t:=two_cast p
 have u:=dq_pos (-(p:Int))
 have hp:=pow2_pos p
 have h2:a * b < (a * b / 2 ^ p + 1) * 2 ^ p:=Int.lt_ediv_add_one_mul_self _ hp
 have c2:=Rat.intCast_lt_intCast.2 h2
 rw [Rat.intCast_mul,Rat.intCast_mul,Rat.intCast_add] at c2
 rw [dq_scale a,dq_scale b,dq_scale (a * b / 2 ^ p)]
 generalize dq 1 (-(p:Int)) = U at *
 generalize (((2:Int) ^ p:Int):Rat) = T at *
 generalize ((a * b / 2 ^ p:Int):Rat) = F at *
 have o:((1:Int):Rat) = 1:=rfl
 rw [o] at c2
 have m2:=Rat.mul_lt_mul_of_pos_right c2 (Rat.mul_pos u u)
 have e2:(F + 1) * T * (U * U) = (F + 1) * U * (T * U):=by grind
 rw [e2,t] at m2
 grind
theorem cut_int (P:Int) {k:Int} (hk:0 < k) (p:Nat):cutQ (dq P (-(p:Int)) / dq k 0) (p:Int) = P / k:=by
 have u:=dq_pos (-(p:Int))
 have kk:(0:Rat) < (k:Rat):=Rat.intCast_lt_intCast.2 hk
 have e0:dq k 0 = (k:Rat):=dq_int k
 rw [e0]
 have dv:dq P (-(p:Int)) / (k:Rat) * (k:Rat) = dq P (-(p:Int)):=Rat.div_mul_cancel (Rat.ne_of_gt kk)
 refine cut_unique (le_of_mul kk (by rw [dv];exact fdiv_le hk _)) ?_
 refine lt_of_mul9 kk ?_
 rw [dv,← dq_succ,dq_scale (P / k + 1),dq_scale P]
 have c:=Rat.intCast_lt_intCast.2 (Int.lt_ediv_add_one_mul_self P hk)
 rw [Rat.intCast_mul] at c
 have m:=Rat.mul_lt_mul_of_pos_right c u
 grind
theorem cmp_z {x:Int}:cmpI x 0 = 0 ↔ x = 0:=by
 unfold cmpI
 (repeat' split) <;> omega
theorem mk_z {x e:Int} (h:mkR x e = 0):mkM x e = 0 ↔ x = 0:=by
 have q:=dq_mk h
 constructor
 ·intro h0
  rw [h0,dq_zero] at q
  have a:=(dq_le_iff x 0 e).1 (by rw [dq_zero,← q];exact Rat.le_refl)
  have b:=(dq_le_iff 0 x e).1 (by rw [dq_zero,← q];exact Rat.le_refl)
  omega
 ·intro h0
  subst h0
  rw [dq_zero] at q
  have a:=(dq_le_iff (mkM 0 e) 0 (mkE 0 e)).1 (by rw [dq_zero,q];exact Rat.le_refl)
  have b:=(dq_le_iff 0 (mkM 0 e) (mkE 0 e)).1 (by rw [dq_zero,q];exact Rat.le_refl)
  omega
def RetAs (w:World) (X Q:Int) (p:Nat) (en:Ending) (w':World):Prop:=∃ n,n≤60∧pwA Q X p n = 0∧RetD8 w (mkM (smA Q X p n) (-(p:Int))) (mkE (smA Q X p n) (-(p:Int))) en w'
theorem unit_ab {x:Int} {p:Nat} (h0:0≤x) (h:x * 1024≤2 ^ p):AbP x p:=by
 have e:((2 ^ p:Nat):Int) = 2 ^ p:=by push_cast;rfl
 unfold AbP
 omega
theorem unit_dq {x:Int} {p:Nat} (h0:0≤x) (h:x * 1024≤2 ^ p):0≤dq x (-(p:Int))∧dq x (-(p:Int))≤1:=by
 have a:=(dq_le_iff 0 x (-(p:Int))).2 h0
 have b:=(dq_le_iff x (2 ^ p) (-(p:Int))).2 (by omega)
 rw [dq_zero] at a
 rw [dq_scale (2 ^ p),two_cast] at b
 exact ⟨a,b⟩
structure SeA (X Q:Int) (p j:Nat) (MP EP MT ET:Int):Prop where
 b:j = 0 ∨ 20 * (j - 1) + 10≤p
 mp:mkM (pwA Q X p j) (-(p:Int)) = MP
 ep:mkE (pwA Q X p j) (-(p:Int)) = EP
 mt:mkM (smA Q X p j) (-(p:Int)) = MT
 et:mkE (smA Q X p j) (-(p:Int)) = ET

theorem tser_any (X Q:Int) (p:Nat) (vx:Value) (w:World) (hx:IsD w vx (mkM X (-(p:Int))) (mkE X (-(p:Int)))) (hX:SmX X Q p) (hp:p≤700) (hT:Tab w) :
  Calls Tryz.prog 119 #[vx,.int .i64 (p:Int)] w (RetAs w X Q p):=by
 obtain ⟨A,c,rfl,_,hn⟩:=hx.form
 have L0:=(Lq.mk0 w).n hn
 have HT:=Hd9 (fun W (hW:Below w.heap.size w W) => hT.mono hW)
 have HX:=Hd9 hX
 have HP:=Hd9 hp
 have aX:=unit_ab hX.nn hX.lt
 have qq:=hX.q
 have aQ:AbP Q p:=unit_ab qq.1 (by omega)
 obtain ⟨n1,n2,n3,n4,n5⟩:=nx (x := -(p:Int)) aX (by omega) (by omega)
 obtain ⟨q1,q2,q3,q4,q5⟩:=nx (x := -(p:Int)) aQ (by omega) (by omega)
 have g1:=fun x y W h j (hW:Below w.heap.size w W) => tprod_any (mkM X (-(p:Int))) (mkE X (-(p:Int))) (mkM X (-(p:Int))) (mkE X (-(p:Int))) Q p x y W h j (by omega) (by omega) (by omega) (by omega) (by rw [n5,cut_fl];exact hX.sq.symm) (aQ.up (by omega)) (by omega) (hT.mono hW)
 have G1:=Hd9 g1
 have HQ:=Hd9 (And.intro q2 (And.intro q3 q5))
 have HJ0:=Hd9 (show SeA X Q p 0 (mkM X (-(p:Int))) (mkE X (-(p:Int))) 0 0 from ⟨Or.inl rfl,rfl,rfl,(nx_zero (by omega)).1,(nx_zero (by omega)).2⟩)
 clear g1 n1 n2 n3 n4 n5 q1 q2 q3 q4 q5 qq aX aQ hX hT hx hn
 obtain ⟨M0,hM0⟩:=nm9 (mkM X (-(p:Int)))
 rw [hM0] at G1 L0 HJ0 ⊢
 clear hM0
 obtain ⟨E0,hE0⟩:=nm9 (mkE X (-(p:Int)))
 rw [hE0] at G1 HJ0 ⊢
 clear hE0
 obtain ⟨MQ,hMQ⟩:=nm9 (mkM Q (-(p:Int)))
 rw [hMQ] at G1 HQ
 clear hMQ
 obtain ⟨EQ,hEQ⟩:=nm9 (mkE Q (-(p:Int)))
 rw [hEQ] at G1 HQ
 clear hEQ
 go_enter Tryz.func119,Tryz.ntmps119
 have L:=((L0.varD (w.heap.size) (by simp) (ng M0) A (zl M0) c E0).varD (w.heap.size + 1) (by simp) false none 0 0 0)
 obtain ⟨c10,c11,c12⟩:=L.tl.b0.a3
 (try go_wp2_with fail)
 refine (G1.out _ _ _ (isD_n (m:=M0) (e:=E0) (s:=.slice A (zl M0) c) (L.getN (by simp))) (isD_n (m:=M0) (e:=E0) (s:=.slice A (zl M0) c) (L.getN (by simp))) L.below).mono ?_
 rintro e w1 ⟨v9,rfl,iz,be⟩
 clear c10 c11 c12
 obtain ⟨A1,c1,rfl,_,in9⟩:=iz.form
 replace L:=(L.step be).n in9
 clear be iz in9
 have hl9:=L.b0.lt
 obtain ⟨gq,hgq⟩:=nm9 (w1.heap.size)
 have L1:=L.varD gq hgq.symm (ng MQ) A1 (zl MQ) c1 EQ
 have L2:=L1.varD (gq + 1) (by simp;omega) false none 0 0 0
 have L3:=L2.varD (gq + 2) (by simp;omega) (ng M0) A (zl M0) c E0
 rw [hgq] at hl9
 obtain ⟨u0,u1,u2⟩:=L1.b0.a3
 obtain ⟨v0,v1,v2⟩:=L2.b0.a3
 obtain ⟨x0,x1,x2⟩:=L2.tl.tl.tl.b0.a3
 obtain ⟨y0,y1,y2⟩:=L3.b0.a3
 obtain ⟨z0,z1,z2⟩:=L.tl.b0.a3
 have hsz:w1.heap.size = gq:=hgq
 go_wp2_with fail
 clear u0 u1 u2 v0 v1 v2 x0 x1 x2 y0 y1 y2 z0 z1 z2
 have hgr:w.heap.size + 1 < gq:=hl9
 clear hsz hl9 L L1 L2
 go_loopw [8] (fun i wr => ∃ (j:Nat) (MP EP MT ET:Int) (B C:Option Addr) (d d2:Nat),i = .int .i64 (2 * (j:Int) + 1)∧Lq w wr [(.slice B (zl MP) d,MP.natAbs),(.slice C (zl MT) d2,MT.natAbs),(.slice A1 (zl MQ) c1,MQ.natAbs)] [] [] [(gq + 2,26,#[.bool (ng MP),.slice B (zl MP) d,.int .i64 EP]),(gq + 1,26,#[.bool (ng MT),.slice C (zl MT) d2,.int .i64 ET]),(gq,26,#[.bool (ng MQ),.slice A1 (zl MQ) c1,.int .i64 EQ]),(w.heap.size + 1,26,#[.bool false,.slice none 0 0,.int .i64 0])]∧Hid (SeA X Q p j MP EP MT ET)) (fun i _ => (2000 - intOf i).toNat)
 case atStart =>
  refine ⟨0,M0,E0,0,0,A,none,c,0,by go_num,?_,HJ0⟩
  have zz0:zl 0 = 0:=zl_zero
  have nn0:ng 0 = false:=rfl
  rw [zz0,nn0]
  exact (L3.n (IsN.zero _)).subx (by simp) (by simp)
 case round =>
  clear L3 HJ0
  obtain ⟨j,MP,EP,MT,ET,B,C,d,d2,rfl,L,HJ⟩:=hrel
  have hX:=HX.out
  have hp:=HP.out
  obtain ⟨hb,hmp,hep,hmt,het⟩:=HJ.out
  have hj60:j≤60:=by omega
  have pn:=pw_nn hX j
  have pl:=pw_le hX j
  have xl:=hX.lt
  have aP:=unit_ab pn (show pwA Q X p j * 1024≤2 ^ p by omega)
  have uP:=unit_dq pn (show pwA Q X p j * 1024≤2 ^ p by omega)
  have aT:=sm_ab hX (n:=j) (by omega)
  obtain ⟨t1,t2,t3,t4,t5⟩:=nx (x := -(p:Int)) aP (by omega) (by omega)
  obtain ⟨s1,s2,s3,s4,s5⟩:=nx (x := -(p:Int)) aT (by omega) (by omega)
  have hz:=mk_z t1
  rw [hmp] at t2 t4 t5 hz
  rw [hep] at t3 t4 t5
  rw [hmt] at s2 s4 s5
  rw [het] at s3 s4 s5
  have gs:=fun v W h => dsign_any MP EP v W h (by omega)
  obtain ⟨sg,hsg⟩:=nm9 (cmpI MP 0)
  have hc:=cmp_z (x:=MP)
  rw [hsg] at gs hc
  have hl0:=L.b0.lt
  by_cases hz0:sg = 0
  ·subst hz0
   have GS:=Hd9 gs
   have hend:=hz.1 (hc.1 rfl)
   have HR:=Hd9 (show ∃ n,n≤60∧pwA Q X p n = 0∧mkM (smA Q X p n) (-(p:Int)) = MT∧mkE (smA Q X p n) (-(p:Int)) = ET from ⟨j,hj60,hend,hmt,het⟩)
   clear gs hz hc hsg hend hX hp hb hmp hep hmt het hj60 pn pl xl aP uP aT t1 t2 t3 t4 t5 s1 s2 s3 s4 s5 HJ
   obtain ⟨cel00,cel01,cel02⟩:=L.b0.a3
   (try go_wp2_with fail)
   refine (GS.out _ _ (isD_n (m:=MP) (e:=EP) (s:=.slice B (zl MP) d) (L.getN (by simp)))).mono ?_
   rintro e w41 ⟨rfl,be⟩
   clear cel00 cel01 cel02
   replace L:=L.step be
   clear be
   have hv9:=L.tl.b0
   have hl9:=hv9.lt
   have L9:=L.subx (ns':=[(.slice C (zl MT) d2,MT.natAbs)]) (bs':=[(w.heap.size + 1,26,#[.bool false,.slice none 0 0,.int .i64 0]),(gq + 1,26,#[.bool (ng MT),.slice C (zl MT) d2,.int .i64 ET])]) (by simp) (by simp)
   clear L hv9
   have L:=L9
   clear L9
   have n9:w.heap.size + 1 ≠ gq + 1:=by omega
   obtain ⟨cel00,cel01,cel02⟩:=L.b0.a3
   obtain ⟨f00,f01,f02⟩:=L.b0.f3
   obtain ⟨cel10,cel11,cel12⟩:=L.tl.b0.a3
   (try go_wp2_with fail)
   clear cel00 f00 cel01 f01 cel02 f02 cel10 cel11 cel12
   obtain ⟨n,hn1,hn2,hn3,hn4⟩:=HR.out
   have LP:=L.putD (by omega) (by first | (simp;done) | (simp;omega)) (ng MT) C (zl MT) d2 (ET)
   obtain ⟨k0,k1,k2⟩:=LP.b0.a3
   unfold put3 at k0 k1 k2
   exact bodyPost_ret (v:=.agg #[.bool (ng MT),.slice C (zl MT) d2,.int .i64 (ET)]) (by simp [results,Tryz.results119,go_sem,k0,k1,k2]) rfl ⟨n,hn1,hn2,_,rfl,by rw [hn3,hn4];exact isD_n (LP.getN (by simp)),LP.below⟩
  ·have GS:=Hd9 gs
   have hpz:pwA Q X p j ≠ 0:=fun h => hz0 (hc.2 (hz.2 h))
   have hj2:=pw_end hX hpz
   have hsb:(sg != 0) = true:=by simp [hz0]
   have hk:(0:Int) < 2 * (j:Int) + 1:=by omega
   obtain ⟨N,hN⟩:=nm9 (2 * (j:Int) + 1)
   have aN:AbP N 14:=by
    have e:(2:Nat) ^ 14 = 16384:=by decide
    unfold AbP
    rw [e]
    omega
   obtain ⟨o1,o2,o3,o4,o5⟩:=nx (x:=0) aN (by omega) (by omega)
   have g2:=fun W (hW:Below w.heap.size w W) => dof_any N W (by omega) (by omega) (HT.out W hW)
   obtain ⟨T,hT9⟩:=nm9 (pwA Q X p j / N)
   have hT0:0≤T:=by rw [← hT9];exact Int.ediv_nonneg pn (by omega)
   have hT1:T≤pwA Q X p j:=by rw [← hT9];exact Int.ediv_le_self _ pn
   have aTt:=unit_ab hT0 (show T * 1024≤2 ^ p by omega)
   have n1:(1:Rat)≤dq N 0:=by
    rw [dq_int]
    have:=Rat.intCast_le_intCast.2 (show (1:Int)≤N by omega)
    exact this
   have g3:=fun x y W h i (hW:Below w.heap.size w W) => tquot_any MP EP (mkM N 0) (mkE N 0) T p x y W h i t4 o4 (by omega) (by omega) (by omega) (by omega) (by rw [t5];exact uP.1) (by rw [t5];exact uP.2) (by rw [o5];grind) (by rw [t5,o5,cut_int _ (by omega)];exact hT9) (by omega) (HT.out W hW)
   obtain ⟨r1,r2,r3,r4,r5⟩:=nx (x := -(p:Int)) aTt (by omega) (by omega)
   obtain ⟨q2,q3,q5⟩:=HQ.out
   have g7:=fun x y W h i (hW:Below w.heap.size w W) => tprod_any MP EP MQ EQ (pwA Q X p (j + 1)) p x y W h i (by omega) (by omega) (by omega) (by omega) (by rw [t5,q5,cut_fl];rfl) ((unit_ab (p:=p) (pw_nn hX (j + 1)) (by have:=pw_le hX (j + 1);omega)).up (by omega)) (by omega) (HT.out W hW)
   have w1:IntKind.i64.wrap (N + 2) = 2 * ((j + 1:Nat):Int) + 1:=by rw [IntKind.wrap_i64];omega
   have evc:=evn_succ j
   have es:smA Q X p (j + 1) = smA Q X p j + (if evn j then T else -T):=by rw [← hT9,← hN];rfl
   have hev:evn j = decide (j % 2 = 0):=rfl
   cases he:evn j
   ·rw [he] at es hev
    have hm:N.tmod 4 = 3:=by
     have:=of_decide_eq_false hev.symm
     rw [Int.tmod_eq_emod_of_nonneg (by omega)]
     omega
    have es2:smA Q X p (j + 1) = smA Q X p j - T:=by rw [es];rw [Int.sub_eq_add_neg];rfl
    have g5:=fun v W h => dneg_any (mkM T (-(p:Int))) (mkE T (-(p:Int))) v W h (by omega)
    have zn:=zl_neg (mkM T (-(p:Int)))
    have g6:=fun x y W h i (hW:Below w.heap.size w W) => dadd_any MT ET (-mkM T (-(p:Int))) (mkE T (-(p:Int))) x y W h i (by omega) (by omega) (by omega) (by omega) (HT.out W hW)
    have nxs:=nx_sub (x := -(p:Int)) aT aTt (by omega) (by omega)
    rw [hmt,het] at nxs
    obtain ⟨y1,y2,y3⟩:=nxs
    rw [y1,y2,y3,← es2] at g6
    have HJ2:=Hd9 (show SeA X Q p (j + 1) (mkM (pwA Q X p (j + 1)) (-(p:Int))) (mkE (pwA Q X p (j + 1)) (-(p:Int))) (mkM (smA Q X p (j + 1)) (-(p:Int))) (mkE (smA Q X p (j + 1)) (-(p:Int))) from ⟨Or.inr (by omega),rfl,rfl,rfl,rfl⟩)
    have G2:=Hd9 g2
    have G3:=Hd9 g3
    have G5:=Hd9 g5
    have G6:=Hd9 g6
    have G7:=Hd9 g7
    have HM:=Hd9 (And.intro hj60 hN)
    clear g2 g3 g5 g6 g7 gs hz hc hsg hX hp hb hmp hep hmt het hj60 pn pl xl aP uP aT t1 t2 t3 t4 t5 s1 s2 s3 s4 s5 HJ hpz hj2 hk aN o1 o2 o3 o4 o5 hT9 hT0 hT1 aTt n1 r1 r2 r3 r4 r5 q2 q3 q5 evc es hev es2 zn y1 y2 y3 he HQ
    rw [hN]
    obtain ⟨MP2,hMP2⟩:=nm9 (mkM (pwA Q X p (j + 1)) (-(p:Int)))
    rw [hMP2] at G7 HJ2
    clear hMP2
    obtain ⟨EP2,hEP2⟩:=nm9 (mkE (pwA Q X p (j + 1)) (-(p:Int)))
    rw [hEP2] at G7 HJ2
    clear hEP2
    obtain ⟨MT2,hMT2⟩:=nm9 (mkM (smA Q X p (j + 1)) (-(p:Int)))
    rw [hMT2] at G6 HJ2
    clear hMT2
    obtain ⟨ET2,hET2⟩:=nm9 (mkE (smA Q X p (j + 1)) (-(p:Int)))
    rw [hET2] at G6 HJ2
    clear hET2
    obtain ⟨Mt,hMt⟩:=nm9 (mkM T (-(p:Int)))
    rw [hMt] at G3 G5 G6
    clear hMt
    obtain ⟨Et,hEt⟩:=nm9 (mkE T (-(p:Int)))
    rw [hEt] at G3 G5 G6
    clear hEt
    obtain ⟨Mo,hMo⟩:=nm9 (mkM N 0)
    rw [hMo] at G2 G3
    clear hMo
    obtain ⟨Eo,hEo⟩:=nm9 (mkE N 0)
    rw [hEo] at G2 G3
    clear hEo
    obtain ⟨cel00,cel01,cel02⟩:=L.b0.a3
    (try go_wp2_with fail)
    refine (GS.out _ _ (isD_n (m:=MP) (e:=EP) (s:=.slice B (zl MP) d) (L.getN (by simp)))).mono ?_
    rintro e w41 ⟨rfl,be⟩
    clear cel00 cel01 cel02
    replace L:=L.step be
    clear be
    have hl_gp:=L.b0.lt
    (try go_wp2_with fail)
    obtain ⟨V,hV,L9⟩:=L.name
    rw [hV]
    clear hV L
    have L:=L9
    clear L9
    have Q0:=Hd9 (fun Z (hZ:Below V.heap.size V Z) => (L.b0.mono hZ).c30)
    have Q1:=Hd9 (fun Z (hZ:Below V.heap.size V Z) => (L.b0.mono hZ).c31)
    have Q2:=Hd9 (fun Z (hZ:Below V.heap.size V Z) => (L.b0.mono hZ).c32)
    have hb0:=L.b0.lt
    have D0:Dq V V [(.slice B (zl MP) d,(MP:Int).natAbs)] [] [] []:=⟨((Lq.mk0 V).n (L.getN (v:=.slice B (zl MP) d) (x:=(MP:Int).natAbs) (by simp))),List.nodup_nil,fun p hp => by cases hp⟩
    have D:=D0.drew
    have hVw:=L.below.size
    have HVW:=Hd9 (fun Z (hZ:Below V.heap.size V Z) => L.below.trans (hZ.mono hVw))
    have LL:=Hd9 L
    clear L
    obtain ⟨K,hK⟩:=nm9 (V.heap.size)
    have hz0:K≤V.heap.size:=by omega
    have hmd:V.drew.heap.size = K:=hK
    have hc0:gq + 2 < K:=by omega
    go_cut [9] from 21 to 25 (fun s0 wx => Made1D V Mt Et s0 wx)
    case first =>
     go_region_held3 (fun w' => w'.cell? ⟨gq + 2,0,none⟩ = some (.bool (ng MP))∧w'.cell? ⟨gq + 2,1,none⟩ = some (.slice B (zl MP) d)∧w'.cell? ⟨gq + 2,2,none⟩ = some (.int .i64 EP)) (((try dsimp only);refine ⟨?_,?_,?_⟩ <;> (repeat (first | (with_reducible exact Q0.out _ D.lq.below) | (with_reducible exact Q0.out _ D0.lq.below) | (with_reducible exact Q1.out _ D.lq.below) | (with_reducible exact Q1.out _ D0.lq.below) | (with_reducible exact Q2.out _ D.lq.below) | (with_reducible exact Q2.out _ D0.lq.below) | (with_reducible refine c_alloc _ ?_) | (with_reducible refine c_drew ?_) | (with_reducible refine c_set ?_ (by assumption) ?_) | omega)))) (first | (go_at_call 111;(with_reducible refine (G2.out _ ?_).mono ?_);(· (first | (with_reducible exact HVW.out _ D.lq.below) | (with_reducible exact HVW.out _ (D.boxD false none 0 0 0).lq.below) | (with_reducible exact HVW.out _ (D0.boxD false none 0 0 0).drew.lq.below)));rintro e9 wh ⟨vh,rfl,id,be⟩;obtain ⟨A7,c7,rfl,_,in9⟩:=id.form;(first | (replace D:=D.step be) | (replace D:=(D.boxMD hmd false none 0 0 0).step be) | (replace D:=(D.boxD false none 0 0 0).step be));have hz:=be.size;(try simp at hz);replace D:=D.n in9;(try (obtain ⟨x00,x01,x02⟩:=D.lq.b0.a3;obtain ⟨y00,y01,y02⟩:=D.lq.b0.f3));(try obtain ⟨na,nb,nc,nd,nl⟩:=D.n0)) | (go_at_call 120;(with_reducible refine (G3.out _ _ _ ?_ ?_ ?_).mono ?_);(· (first | (with_reducible refine isD_n (D.getN ?_);(repeat (first | (with_reducible exact mS) | apply mT))) | (with_reducible refine isD_n ((D.boxD false none 0 0 0).getN ?_);(repeat (first | (with_reducible exact mS) | apply mT))) | (with_reducible refine isD_n ((D0.boxD false none 0 0 0).drew.getN ?_);(repeat (first | (with_reducible exact mS) | apply mT)))));(· (first | (with_reducible refine isD_n (D.getN ?_);(repeat (first | (with_reducible exact mS) | apply mT))) | (with_reducible refine isD_n ((D.boxD false none 0 0 0).getN ?_);(repeat (first | (with_reducible exact mS) | apply mT))) | (with_reducible refine isD_n ((D0.boxD false none 0 0 0).drew.getN ?_);(repeat (first | (with_reducible exact mS) | apply mT)))));(· (first | (with_reducible exact HVW.out _ D.lq.below) | (with_reducible exact HVW.out _ (D.boxD false none 0 0 0).lq.below) | (with_reducible exact HVW.out _ (D0.boxD false none 0 0 0).drew.lq.below)));rintro e9 wh ⟨vh,rfl,id,be⟩;obtain ⟨A8,c8,rfl,_,in9⟩:=id.form;(first | (replace D:=D.step be) | (replace D:=(D.boxMD hmd false none 0 0 0).step be) | (replace D:=(D.boxD false none 0 0 0).step be));have hz:=be.size;(try simp at hz);replace D:=D.n in9;(try (obtain ⟨x00,x01,x02⟩:=D.lq.b0.a3;obtain ⟨y00,y01,y02⟩:=D.lq.b0.f3));(try obtain ⟨na,nb,nc,nd,nl⟩:=D.n0)))
     all_goals
      go_wp2_with fail
      go_meet
      first
      | ((with_reducible refine made1d_a D ?_) <;> (repeat (first | (with_reducible exact mS) | apply mT)))
      | ((with_reducible refine made1d_b D ?_) <;> (repeat (first | (with_reducible exact mS) | apply mT)))
    case rest =>
     obtain ⟨gn,A9,c9,rfl,hg9,bw,hb9,q1⟩:=hcut
     have L:=((LL.out.step bw).n q1).b hb9
     have hl_gn:=hg9
     clear D D0 hmd LL hb9 q1 bw hg9 HVW Q0 Q1 Q2 hc0
     generalize wc = wd41 at *
     obtain ⟨cel00,cel01,cel02⟩:=L.b0.a3
     (try go_wp2_with fail)
     refine (G5.out _ _ (isD_n (m:=Mt) (e:=Et) (s:=.slice A9 (zl Mt) c9) (L.getN (by simp)))).mono ?_
     rintro e w43 ⟨v9,rfl,iz,be⟩
     clear cel00 cel01 cel02
     obtain ⟨A5,c5,rfl,_,in9⟩:=iz.form
     replace L:=(L.step be).n in9
     clear be iz in9
     obtain ⟨cel00,cel01,cel02⟩:=L.b0.a3
     obtain ⟨f00,f01,f02⟩:=L.b0.f3
     have P:=L.putD (by omega) (by first | (simp;done) | (simp;omega)) (ng (-Mt)) A5 (zl (-Mt)) c5 Et
     obtain ⟨p00,p01,p02⟩:=P.b0.a3
     obtain ⟨p20,p21,p22⟩:=P.tl.tl.b0.a3
     unfold put3 at p00 p01 p02 p20 p21 p22 P
     go_wp2_with fail
     replace L:=P
     clear P p00 p01 p02 p20 p21 p22
     clear cel00 f00 cel01 f01 cel02 f02
     obtain ⟨Mn,hMn⟩:=nm9 (-Mt)
     rw [hMn] at L G6 ⊢
     clear hMn
     refine (G6.out _ _ _ (isD_n (m:=MT) (e:=ET) (s:=.slice C (zl MT) d2) (L.getN (by simp))) (isD_n (m:=Mn) (e:=Et) (s:=.slice A5 (zl Mn) c5) (L.getN (by simp))) L.below).mono ?_
     rintro e w44 ⟨v9,rfl,iz,be⟩
     obtain ⟨C5,d5,rfl,_,in9⟩:=iz.form
     replace L:=(L.step be).n in9
     clear be iz in9
     have L9:=L.subx (ns':=[(.slice B (zl MP) d,MP.natAbs),(.slice C5 (zl MT2) d5,MT2.natAbs),(.slice A1 (zl MQ) c1,MQ.natAbs)]) (bs':=[(gq + 1,26,#[.bool (ng MT),.slice C (zl MT) d2,.int .i64 ET]),(gq + 2,26,#[.bool (ng MP),.slice B (zl MP) d,.int .i64 EP]),(gq,26,#[.bool (ng MQ),.slice A1 (zl MQ) c1,.int .i64 EQ]),(w.heap.size + 1,26,#[.bool false,.slice none 0 0,.int .i64 0])]) (by simp) (by simp)
     clear L
     have L:=L9
     clear L9
     obtain ⟨cel00,cel01,cel02⟩:=L.b0.a3
     obtain ⟨f00,f01,f02⟩:=L.b0.f3
     have P:=L.putD (by omega) (by first | (simp;done) | (simp;omega)) (ng MT2) C5 (zl MT2) d5 ET2
     obtain ⟨p10,p11,p12⟩:=P.tl.b0.a3
     obtain ⟨p20,p21,p22⟩:=P.tl.tl.b0.a3
     unfold put3 at p10 p11 p12 p20 p21 p22 P
     go_wp2_with fail
     replace L:=P
     clear P p10 p11 p12 p20 p21 p22
     clear cel00 f00 cel01 f01 cel02 f02
     refine (G7.out _ _ _ (isD_n (m:=MP) (e:=EP) (s:=.slice B (zl MP) d) (L.getN (by simp))) (isD_n (m:=MQ) (e:=EQ) (s:=.slice A1 (zl MQ) c1) (L.getN (by simp))) L.below).mono ?_
     rintro e w45 ⟨v9,rfl,iz,be⟩
     obtain ⟨B5,d6,rfl,_,in9⟩:=iz.form
     replace L:=(L.step be).n in9
     clear be iz in9
     replace L:=L.swap
     obtain ⟨cel00,cel01,cel02⟩:=L.b0.a3
     obtain ⟨f00,f01,f02⟩:=L.b0.f3
     replace L:=L.putD (by omega) (by first | (simp;done) | (simp;omega)) (ng MP2) B5 (zl MP2) d6 EP2
     unfold put3 at L
     go_wp2_with fail
     go_roundw
     case rel => exact ⟨j + 1,MP2,EP2,MT2,ET2,B5,C5,d6,d5,by go_num,L.subx (by simp) (by simp),HJ2⟩
     case measure =>
      obtain ⟨hj60,hN⟩:=HM.out
      simp [intOf]
      omega
   ·rw [he] at es hev
    have hm:N.tmod 4 = 1:=by
     have:=of_decide_eq_true hev.symm
     rw [Int.tmod_eq_emod_of_nonneg (by omega)]
     omega
    have es2:smA Q X p (j + 1) = smA Q X p j + T:=by rw [es];rfl
    have g5:=fun v W h => dneg_any (mkM T (-(p:Int))) (mkE T (-(p:Int))) v W h (by omega)
    have zn:=zl_neg (mkM T (-(p:Int)))
    have g6:=fun x y W h i (hW:Below w.heap.size w W) => dadd_any MT ET (mkM T (-(p:Int))) (mkE T (-(p:Int))) x y W h i (by omega) (by omega) (by omega) (by omega) (HT.out W hW)
    have nxs:=nx_add (x := -(p:Int)) aT aTt (by omega) (by omega)
    rw [hmt,het] at nxs
    obtain ⟨y1,y2,y3⟩:=nxs
    rw [y1,y2,y3,← es2] at g6
    have HJ2:=Hd9 (show SeA X Q p (j + 1) (mkM (pwA Q X p (j + 1)) (-(p:Int))) (mkE (pwA Q X p (j + 1)) (-(p:Int))) (mkM (smA Q X p (j + 1)) (-(p:Int))) (mkE (smA Q X p (j + 1)) (-(p:Int))) from ⟨Or.inr (by omega),rfl,rfl,rfl,rfl⟩)
    have G2:=Hd9 g2
    have G3:=Hd9 g3
    have G5:=Hd9 g5
    have G6:=Hd9 g6
    have G7:=Hd9 g7
    have HM:=Hd9 (And.intro hj60 hN)
    clear g2 g3 g5 g6 g7 gs hz hc hsg hX hp hb hmp hep hmt het hj60 pn pl xl aP uP aT t1 t2 t3 t4 t5 s1 s2 s3 s4 s5 HJ hpz hj2 hk aN o1 o2 o3 o4 o5 hT9 hT0 hT1 aTt n1 r1 r2 r3 r4 r5 q2 q3 q5 evc es hev es2 zn y1 y2 y3 he HQ
    rw [hN]
    obtain ⟨MP2,hMP2⟩:=nm9 (mkM (pwA Q X p (j + 1)) (-(p:Int)))
    rw [hMP2] at G7 HJ2
    clear hMP2
    obtain ⟨EP2,hEP2⟩:=nm9 (mkE (pwA Q X p (j + 1)) (-(p:Int)))
    rw [hEP2] at G7 HJ2
    clear hEP2
    obtain ⟨MT2,hMT2⟩:=nm9 (mkM (smA Q X p (j + 1)) (-(p:Int)))
    rw [hMT2] at G6 HJ2
    clear hMT2
    obtain ⟨ET2,hET2⟩:=nm9 (mkE (smA Q X p (j + 1)) (-(p:Int)))
    rw [hET2] at G6 HJ2
    clear hET2
    obtain ⟨Mt,hMt⟩:=nm9 (mkM T (-(p:Int)))
    rw [hMt] at G3 G5 G6
    clear hMt
    obtain ⟨Et,hEt⟩:=nm9 (mkE T (-(p:Int)))
    rw [hEt] at G3 G5 G6
    clear hEt
    obtain ⟨Mo,hMo⟩:=nm9 (mkM N 0)
    rw [hMo] at G2 G3
    clear hMo
    obtain ⟨Eo,hEo⟩:=nm9 (mkE N 0)
    rw [hEo] at G2 G3
    clear hEo
    obtain ⟨cel00,cel01,cel02⟩:=L.b0.a3
    (try go_wp2_with fail)
    refine (GS.out _ _ (isD_n (m:=MP) (e:=EP) (s:=.slice B (zl MP) d) (L.getN (by simp)))).mono ?_
    rintro e w41 ⟨rfl,be⟩
    clear cel00 cel01 cel02
    replace L:=L.step be
    clear be
    have hl_gp:=L.b0.lt
    (try go_wp2_with fail)
    obtain ⟨V,hV,L9⟩:=L.name
    rw [hV]
    clear hV L
    have L:=L9
    clear L9
    have Q0:=Hd9 (fun Z (hZ:Below V.heap.size V Z) => (L.b0.mono hZ).c30)
    have Q1:=Hd9 (fun Z (hZ:Below V.heap.size V Z) => (L.b0.mono hZ).c31)
    have Q2:=Hd9 (fun Z (hZ:Below V.heap.size V Z) => (L.b0.mono hZ).c32)
    have hb0:=L.b0.lt
    have D0:Dq V V [(.slice B (zl MP) d,(MP:Int).natAbs)] [] [] []:=⟨((Lq.mk0 V).n (L.getN (v:=.slice B (zl MP) d) (x:=(MP:Int).natAbs) (by simp))),List.nodup_nil,fun p hp => by cases hp⟩
    have D:=D0.drew
    have hVw:=L.below.size
    have HVW:=Hd9 (fun Z (hZ:Below V.heap.size V Z) => L.below.trans (hZ.mono hVw))
    have LL:=Hd9 L
    clear L
    obtain ⟨K,hK⟩:=nm9 (V.heap.size)
    have hz0:K≤V.heap.size:=by omega
    have hmd:V.drew.heap.size = K:=hK
    have hc0:gq + 2 < K:=by omega
    go_cut [9] from 21 to 25 (fun s0 wx => Made1D V Mt Et s0 wx)
    case first =>
     go_region_held3 (fun w' => w'.cell? ⟨gq + 2,0,none⟩ = some (.bool (ng MP))∧w'.cell? ⟨gq + 2,1,none⟩ = some (.slice B (zl MP) d)∧w'.cell? ⟨gq + 2,2,none⟩ = some (.int .i64 EP)) (((try dsimp only);refine ⟨?_,?_,?_⟩ <;> (repeat (first | (with_reducible exact Q0.out _ D.lq.below) | (with_reducible exact Q0.out _ D0.lq.below) | (with_reducible exact Q1.out _ D.lq.below) | (with_reducible exact Q1.out _ D0.lq.below) | (with_reducible exact Q2.out _ D.lq.below) | (with_reducible exact Q2.out _ D0.lq.below) | (with_reducible refine c_alloc _ ?_) | (with_reducible refine c_drew ?_) | (with_reducible refine c_set ?_ (by assumption) ?_) | omega)))) (first | (go_at_call 111;(with_reducible refine (G2.out _ ?_).mono ?_);(· (first | (with_reducible exact HVW.out _ D.lq.below) | (with_reducible exact HVW.out _ (D.boxD false none 0 0 0).lq.below) | (with_reducible exact HVW.out _ (D0.boxD false none 0 0 0).drew.lq.below)));rintro e9 wh ⟨vh,rfl,id,be⟩;obtain ⟨A7,c7,rfl,_,in9⟩:=id.form;(first | (replace D:=D.step be) | (replace D:=(D.boxMD hmd false none 0 0 0).step be) | (replace D:=(D.boxD false none 0 0 0).step be));have hz:=be.size;(try simp at hz);replace D:=D.n in9;(try (obtain ⟨x00,x01,x02⟩:=D.lq.b0.a3;obtain ⟨y00,y01,y02⟩:=D.lq.b0.f3));(try obtain ⟨na,nb,nc,nd,nl⟩:=D.n0)) | (go_at_call 120;(with_reducible refine (G3.out _ _ _ ?_ ?_ ?_).mono ?_);(· (first | (with_reducible refine isD_n (D.getN ?_);(repeat (first | (with_reducible exact mS) | apply mT))) | (with_reducible refine isD_n ((D.boxD false none 0 0 0).getN ?_);(repeat (first | (with_reducible exact mS) | apply mT))) | (with_reducible refine isD_n ((D0.boxD false none 0 0 0).drew.getN ?_);(repeat (first | (with_reducible exact mS) | apply mT)))));(· (first | (with_reducible refine isD_n (D.getN ?_);(repeat (first | (with_reducible exact mS) | apply mT))) | (with_reducible refine isD_n ((D.boxD false none 0 0 0).getN ?_);(repeat (first | (with_reducible exact mS) | apply mT))) | (with_reducible refine isD_n ((D0.boxD false none 0 0 0).drew.getN ?_);(repeat (first | (with_reducible exact mS) | apply mT)))));(· (first | (with_reducible exact HVW.out _ D.lq.below) | (with_reducible exact HVW.out _ (D.boxD false none 0 0 0).lq.below) | (with_reducible exact HVW.out _ (D0.boxD false none 0 0 0).drew.lq.below)));rintro e9 wh ⟨vh,rfl,id,be⟩;obtain ⟨A8,c8,rfl,_,in9⟩:=id.form;(first | (replace D:=D.step be) | (replace D:=(D.boxMD hmd false none 0 0 0).step be) | (replace D:=(D.boxD false none 0 0 0).step be));have hz:=be.size;(try simp at hz);replace D:=D.n in9;(try (obtain ⟨x00,x01,x02⟩:=D.lq.b0.a3;obtain ⟨y00,y01,y02⟩:=D.lq.b0.f3));(try obtain ⟨na,nb,nc,nd,nl⟩:=D.n0)))
     all_goals
      go_wp2_with fail
      go_meet
      first
      | ((with_reducible refine made1d_a D ?_) <;> (repeat (first | (with_reducible exact mS) | apply mT)))
      | ((with_reducible refine made1d_b D ?_) <;> (repeat (first | (with_reducible exact mS) | apply mT)))
    case rest =>
     obtain ⟨gn,A9,c9,rfl,hg9,bw,hb9,q1⟩:=hcut
     have L:=((LL.out.step bw).n q1).b hb9
     have hl_gn:=hg9
     clear D D0 hmd LL hb9 q1 bw hg9 HVW Q0 Q1 Q2 hc0
     generalize wc = wd41 at *
     obtain ⟨cel00,cel01,cel02⟩:=L.b0.a3
     obtain ⟨cel20,cel21,cel22⟩:=L.tl.tl.b0.a3
     (try go_wp2_with fail)
     refine (G6.out _ _ _ (isD_n (m:=MT) (e:=ET) (s:=.slice C (zl MT) d2) (L.getN (by simp))) (isD_n (m:=Mt) (e:=Et) (s:=.slice A9 (zl Mt) c9) (L.getN (by simp))) L.below).mono ?_
     rintro e w43 ⟨v9,rfl,iz,be⟩
     clear cel00 cel01 cel02 cel20 cel21 cel22
     obtain ⟨C5,d5,rfl,_,in9⟩:=iz.form
     replace L:=(L.step be).n in9
     clear be iz in9
     have L9:=L.subx (ns':=[(.slice B (zl MP) d,MP.natAbs),(.slice C5 (zl MT2) d5,MT2.natAbs),(.slice A1 (zl MQ) c1,MQ.natAbs)]) (bs':=[(gq + 1,26,#[.bool (ng MT),.slice C (zl MT) d2,.int .i64 ET]),(gq + 2,26,#[.bool (ng MP),.slice B (zl MP) d,.int .i64 EP]),(gq,26,#[.bool (ng MQ),.slice A1 (zl MQ) c1,.int .i64 EQ]),(w.heap.size + 1,26,#[.bool false,.slice none 0 0,.int .i64 0])]) (by simp) (by simp)
     clear L
     have L:=L9
     clear L9
     obtain ⟨cel00,cel01,cel02⟩:=L.b0.a3
     obtain ⟨f00,f01,f02⟩:=L.b0.f3
     have P:=L.putD (by omega) (by first | (simp;done) | (simp;omega)) (ng MT2) C5 (zl MT2) d5 ET2
     obtain ⟨p10,p11,p12⟩:=P.tl.b0.a3
     obtain ⟨p20,p21,p22⟩:=P.tl.tl.b0.a3
     unfold put3 at p10 p11 p12 p20 p21 p22 P
     go_wp2_with fail
     replace L:=P
     clear P p10 p11 p12 p20 p21 p22
     clear cel00 f00 cel01 f01 cel02 f02
     refine (G7.out _ _ _ (isD_n (m:=MP) (e:=EP) (s:=.slice B (zl MP) d) (L.getN (by simp))) (isD_n (m:=MQ) (e:=EQ) (s:=.slice A1 (zl MQ) c1) (L.getN (by simp))) L.below).mono ?_
     rintro e w44 ⟨v9,rfl,iz,be⟩
     obtain ⟨B5,d6,rfl,_,in9⟩:=iz.form
     replace L:=(L.step be).n in9
     clear be iz in9
     replace L:=L.swap
     obtain ⟨cel00,cel01,cel02⟩:=L.b0.a3
     obtain ⟨f00,f01,f02⟩:=L.b0.f3
     replace L:=L.putD (by omega) (by first | (simp;done) | (simp;omega)) (ng MP2) B5 (zl MP2) d6 EP2
     unfold put3 at L
     go_wp2_with fail
     go_roundw
     case rel => exact ⟨j + 1,MP2,EP2,MT2,ET2,B5,C5,d6,d5,by go_num,L.subx (by simp) (by simp),HJ2⟩
     case measure =>
      obtain ⟨hj60,hN⟩:=HM.out
      simp [intOf]
      omega

theorem nx_shl {s:Int} {p j k:Nat} (h:AbP s j) (hj:j≤2000) (hk:k≤100) (hp:p≤2000):mkR (mkM s (-(p:Int))) (mkE s (-(p:Int)) + (k:Int)) = 0∧mkM (mkM s (-(p:Int))) (mkE s (-(p:Int)) + (k:Int)) = mkM (s * 2 ^ k) (-(p:Int))∧mkE (mkM s (-(p:Int))) (mkE s (-(p:Int)) + (k:Int)) = mkE (s * 2 ^ k) (-(p:Int)):=by
 obtain ⟨a1,a2,a3,a4,a5⟩:=nx (x := -(p:Int)) h (by omega) (by omega)
 have hr:mkR (mkM s (-(p:Int))) (mkE s (-(p:Int)) + (k:Int)) = 0:=mk_fits9 (by omega) (by omega) (by omega)
 have hs:AbP (s * 2 ^ k) (j + k):=AbP.mul h (by unfold AbP;rw [Int.natAbs_pow];exact Nat.le_refl _)
 obtain ⟨b1,_⟩:=nx (x := -(p:Int)) hs (by omega) (by omega)
 refine ⟨hr,mk_uniq hr b1 ?_⟩
 have e1:=dq_mul (mkM s (-(p:Int))) (mkE s (-(p:Int))) 1 (k:Int)
 rw [Int.mul_one,a5] at e1
 have e2:dq (s * 2 ^ k) (-(p:Int)) = dq s (-(p:Int)) * dq 1 (k:Int):=by
  have:=dq_mul s (-(p:Int)) 1 (k:Int)
  rw [Int.mul_one] at this
  rw [← this]
  refine dq_eq (F := -(p:Int)) ?_ (by omega) (by omega)
  rw [show (-(p:Int) - -(p:Int)).toNat = 0 by omega,show (-(p:Int) + (k:Int) - -(p:Int)).toNat = k by omega]
  simp
 rw [e1,e2]
structure AnJ (p:Nat) (C0:Int) (j:Nat) (C MC EC:Int):Prop where
 hv:HvI p C0 j C
 k:j≤11
 ab:AbP C (p + 30)
 m:mkM C (-(p:Int)) = MC
 e:mkE C (-(p:Int)) = EC
def RetAg (w:World) (p:Nat) (C0:Int) (en:Ending) (w':World):Prop:=∃ Z,AgI p C0 Z∧AbP Z (p + 20)∧RetD8 w (mkM Z (-(p:Int))) (mkE Z (-(p:Int))) en w'
theorem ten_dq (p:Nat):dq (1024 * 2 ^ p) (-(p:Int)) = dq 1 10:=by
 rw [dq_scale,Rat.intCast_mul,Rat.mul_assoc,two_cast,Rat.mul_one]
 decide +kernel
theorem last_x {p:Nat} {C:Int} (hC:1024 * 2 ^ p≤C):∃ X,cutQ (1 / dq C (-(p:Int))) (p:Int) = X∧SmX X (X * X / 2 ^ p) p∧dq X (-(p:Int)) * dq C (-(p:Int))≤1∧1≤(dq X (-(p:Int)) + dq 1 (-(p:Int))) * dq C (-(p:Int))∧AbP X p:=by
 have hc:1024≤dq C (-(p:Int)):=by
  have:=(dq_le_iff _ _ (-(p:Int))).2 hC
  rw [ten_dq] at this
  exact this
 obtain ⟨_,b2,_,b4,b5,b6⟩:=rec_bd (x:=dq C (-(p:Int))) (p:=p) (b:=0) (k:=p) (by grind) rfl
 refine ⟨_,rfl,⟨b6,?_,rfl⟩,b4,b5,b2⟩
 refine (dq_le_iff _ _ (-(p:Int))).1 ?_
 generalize cutQ (1 / dq C (-(p:Int))) (p:Int) = X at *
 have x0:0≤dq X (-(p:Int)):=by have:=(dq_le_iff 0 X (-(p:Int))).2 b6;rwa [dq_zero] at this
 have m:=Rat.mul_le_mul_of_nonneg_left hc x0
 have e:dq (X * 1024) (-(p:Int)) = dq X (-(p:Int)) * 1024:=by
  rw [dq_scale,dq_scale X,Rat.intCast_mul]
  have:((1024:Int):Rat) = 1024:=rfl
  rw [this]
  grind
 rw [e,dq_scale (2 ^ p),two_cast]
 grind
theorem hv_ab {p:Nat} {C S:Int} (h0:0≤C) (hC:C < 1024 * 2 ^ p) (hS:SqI C S p):AbP (C + S) (p + 30):=by
 obtain ⟨b1,b2,b3⟩:=hS.big h0
 have s0:=hS.nn
 have e:(2:Nat) ^ (p + 30) = 2 ^ p * 1073741824:=by rw [Nat.pow_add]
 have ep:((2 ^ p:Nat):Int) = 2 ^ p:=by push_cast;rfl
 have pp:0 < (2:Nat) ^ p:=Nat.pow_pos (by omega)
 unfold AbP
 rw [e]
 generalize (2:Nat) ^ p = P at *
 rw [← ep] at b2 b3 hC
 omega

theorem tangle_any (C0:Int) (p:Nat) (vx:Value) (w:World) (hx:IsD w vx (mkM C0 (-(p:Int))) (mkE C0 (-(p:Int)))) (h0:0≤C0) (hC:AbP C0 (p + 30)) (hp:p≤700) (hT:Tab w) :
  Calls Tryz.prog 110 #[vx,.int .i64 (p:Int)] w (RetAg w p C0):=by
 obtain ⟨A,c,rfl,_,hn⟩:=hx.form
 have L0:=(Lq.mk0 w).n hn
 have HT:=Hd9 (fun W (hW:Below w.heap.size w W) => hT.mono hW)
 have HP:=Hd9 hp
 have HJ0:=Hd9 (show AnJ p C0 0 C0 (mkM C0 (-(p:Int))) (mkE C0 (-(p:Int))) from ⟨HvI.first h0,by omega,hC,rfl,rfl⟩)
 have hpm:permB (-10) = true:=by decide
 obtain ⟨y1,y2,y3⟩:=g_yes hpm 1
 have g1:=fun W (hW:Below w.heap.size w W) => gunit_any (-10) W (by omega) (by omega) (hT.mono hW)
 rw [y1,y2,y3,show -(-10:Int) = 10 from rfl] at g1
 have l1:AbP 1 0:=by unfold AbP;decide
 obtain ⟨u1,u2,u3,u4,u5⟩:=nx (x:=10) l1 (by omega) (by omega)
 rw [u1] at g1
 obtain ⟨M0,hM0⟩:=nm9 (mkM C0 (-(p:Int)))
 obtain ⟨E0,hE0⟩:=nm9 (mkE C0 (-(p:Int)))
 rw [hM0] at L0 HJ0 ⊢
 rw [hE0] at HJ0 ⊢
 obtain ⟨ML,hML⟩:=nm9 (mkM 1 10)
 obtain ⟨EL,hEL⟩:=nm9 (mkE 1 10)
 rw [hML] at g1 u2 u5
 rw [hEL] at g1 u3 u5
 have HL:=Hd9 (And.intro u2 (And.intro u3 u5))
 have G1:=Hd9 g1
 clear g1 y1 y2 y3 hpm l1 u1 u2 u3 u4 u5 hM0 hE0 hML hEL h0 hC hp hT hx hn
 go_enter Tryz.func110,Tryz.ntmps110
 have L:=((L0.varD (w.heap.size) (by simp) (ng M0) A (zl M0) c E0).varD (w.heap.size + 1) (by simp) false none 0 0 0)
 obtain ⟨c10,c11,c12⟩:=L.tl.b0.a3
 (try go_wp2_with fail)
 refine (G1.out _ L.below).mono ?_
 rintro e w1 ⟨v9,rfl,iz,be⟩
 clear c10 c11 c12
 obtain ⟨A1,c1,rfl,_,in9⟩:=iz.form
 replace L:=(L.step be).n in9
 clear be iz in9
 have hl9:=L.b0.lt
 replace L:=L.varD w1.heap.size rfl (ng ML) A1 (zl ML) c1 EL
 obtain ⟨c00,c01,c02⟩:=L.b0.a3
 (try go_wp2_with fail)
 clear c00 c01 c02
 obtain ⟨gl,hgl⟩:=nm9 (w1.heap.size)
 rw [hgl] at L hl9 ⊢
 clear hgl
 have hl_gl:=hl9
 clear hl9
 clear G1
 have hgl:w.heap.size + 1 < gl:=by omega
 go_loopw [7] (fun i wr => ∃ (j:Nat) (C MC EC:Int) (B:Option Addr) (d:Nat),i = .int .i64 (j:Int)∧Lq w wr [(.slice B (zl MC) d,MC.natAbs),(.slice A1 (zl ML) c1,ML.natAbs)] [] [] [(w.heap.size,26,#[.bool (ng MC),.slice B (zl MC) d,.int .i64 EC]),(gl,26,#[.bool (ng ML),.slice A1 (zl ML) c1,.int .i64 EL]),(w.heap.size + 1,26,#[.bool false,.slice none 0 0,.int .i64 0])]∧Hid (AnJ p C0 j C MC EC)) (fun i _ => (20 - intOf i).toNat)
 case atStart => exact ⟨0,C0,M0,E0,A,c,by go_num,L.subx (by simp) (by simp),HJ0⟩
 case round =>
  clear L HJ0
  obtain ⟨j,C,MC,EC,B,d,rfl,L,HJ⟩:=hrel
  have hJ:=HJ.out
  have hp:=HP.out
  have hjk:=hJ.k
  obtain ⟨t1,t2,t3,t4,t5⟩:=nx (x := -(p:Int)) hJ.ab (by omega) (by omega)
  rw [hJ.m] at t2 t4 t5
  rw [hJ.e] at t3 t4 t5
  obtain ⟨l2,l3,l5⟩:=HL.out
  have g2:=fun v u W h k => dcmp_any MC EC ML EL v u W h k (by omega) (by omega) (by omega) (by omega)
  obtain ⟨sg,hsg⟩:=nm9 (dcm MC EC ML EL)
  have hc:=dcm_lt MC EC ML EL
  rw [show cmpI (MC * 2 ^ (EC - min EC EL).toNat) (ML * 2 ^ (EL - min EC EL).toNat) = dcm MC EC ML EL from rfl,hsg] at g2
  rw [hsg,t5,l5,← ten_dq p,← Rat.not_le,dq_le_iff,Int.not_le] at hc
  have G2:=Hd9 g2
  have hl0:=L.b0.lt
  clear g2 hsg l2 l3 l5
  by_cases hz0:sg < 0
  ·have hlt:=hc.1 hz0
   have hj10:=hJ.hv.le hlt
   obtain ⟨S,hS⟩:=nm9 (sqR (dq C (-(p:Int)) * dq C (-(p:Int)) + 1) (p:Int))
   have hSI:=sqi C p
   rw [hS] at hSI
   have g3:=fun v W h (hW:Below w.heap.size w W) => thalf_any C S p v W h hJ.hv.nn hJ.ab hS (by omega) (HT.out W hW)
   rw [hJ.m,hJ.e] at g3
   have HJ2:=Hd9 (show AnJ p C0 (j + 1) (C + S) (mkM (C + S) (-(p:Int))) (mkE (C + S) (-(p:Int))) from ⟨hJ.hv.step hSI,by omega,hv_ab hJ.hv.nn hlt hSI,rfl,rfl⟩)
   obtain ⟨M2,hM2⟩:=nm9 (mkM (C + S) (-(p:Int)))
   obtain ⟨E2,hE2⟩:=nm9 (mkE (C + S) (-(p:Int)))
   rw [hM2,hE2] at g3 HJ2
   have G3:=Hd9 g3
   have w1:IntKind.i64.wrap ((j:Int) + 1) = (j:Int) + 1:=by rw [IntKind.wrap_i64];omega
   have d1:decide (sg < 0) = true:=decide_eq_true hz0
   clear g3 hM2 hE2 hS hSI hlt hc t1 t2 t3 t4 t5 hJ hp
   obtain ⟨cel00,cel01,cel02⟩:=L.b0.a3
   obtain ⟨cel10,cel11,cel12⟩:=L.tl.b0.a3
   (try go_wp2_with fail)
   refine (G2.out _ _ _ (isD_n (m:=MC) (e:=EC) (s:=.slice B (zl MC) d) (L.getN (by simp))) (isD_n (m:=ML) (e:=EL) (s:=.slice A1 (zl ML) c1) (L.getN (by simp)))).mono ?_
   rintro e w41 ⟨rfl,be⟩
   clear cel00 cel01 cel02 cel10 cel11 cel12
   replace L:=L.step be
   clear be
   obtain ⟨cel00,cel01,cel02⟩:=L.b0.a3
   (try go_wp2_with fail)
   refine (G3.out _ _ (isD_n (m:=MC) (e:=EC) (s:=.slice B (zl MC) d) (L.getN (by simp))) L.below).mono ?_
   rintro e w42 ⟨v9,rfl,iz,be⟩
   clear cel00 cel01 cel02
   obtain ⟨B5,d5,rfl,_,in9⟩:=iz.form
   replace L:=(L.step be).n in9
   clear be iz in9
   obtain ⟨cel00,cel01,cel02⟩:=L.b0.a3
   obtain ⟨f00,f01,f02⟩:=L.b0.f3
   have P:=L.putD (by omega) (by first | (simp;done) | (simp;omega)) (ng M2) B5 (zl M2) d5 E2
   unfold put3 at  P
   go_wp2_with fail
   replace L:=P
   clear P 
   clear cel00 f00 cel01 f01 cel02 f02
   go_roundw
   case rel => exact ⟨j + 1,C + S,M2,E2,B5,d5,by go_num,L.subx (by simp) (by simp),HJ2⟩
   case measure => simp [intOf];omega
  ·have hge:1024 * 2 ^ p≤C:=by
    refine Int.not_lt.1 fun h => hz0 (hc.2 h)
   obtain ⟨X,hX,hSX,x1,x2,aX⟩:=last_x hge
   have d1:decide (sg < 0) = false:=decide_eq_false hz0
   have l1:AbP 1 0:=by unfold AbP;decide
   obtain ⟨u1,u2,u3,u4,u5⟩:=nx (x:=0) l1 (by omega) (by omega)
   have one:dq 1 0 = 1:=by decide +kernel
   have g3:=fun W (hW:Below w.heap.size w W) => dof_any 1 W (by omega) (by omega) (HT.out W hW)
   have hc9:1024≤dq C (-(p:Int)):=by
    have:=(dq_le_iff _ _ (-(p:Int))).2 hge
    rw [ten_dq] at this
    exact this
   have g4:=fun x y W h i (hW:Below w.heap.size w W) => tquot_any (mkM 1 0) (mkE 1 0) MC EC X p x y W h i u4 t4 (by omega) (by omega) (by omega) (by omega) (by rw [u5,one];decide) (by rw [u5,one];exact Rat.le_refl) (by rw [t5];grind) (by rw [u5,one,t5];exact hX) (by omega) (HT.out W hW)
   have g5:=fun x W h (hW:Below w.heap.size w W) => tser_any X (X * X / 2 ^ p) p x W h hSX (by omega) (HT.out W hW)
   have HE:=Hd9 (fun n (hn:pwA (X * X / 2 ^ p) X p n = 0) (h6:n≤60) => ang_end hJ.hv hJ.k hge hSX x1 x2 hn (by omega))
   have HS:=Hd9 (And.intro hSX (And.intro hp hjk))
   obtain ⟨XM,hXM⟩:=nm9 (mkM X (-(p:Int)))
   obtain ⟨XE,hXE⟩:=nm9 (mkE X (-(p:Int)))
   rw [hXM,hXE] at g4 g5
   obtain ⟨M1,hM1⟩:=nm9 (mkM 1 0)
   obtain ⟨E1,hE1⟩:=nm9 (mkE 1 0)
   rw [hM1,hE1] at g3 g4
   have G3:=Hd9 g3
   have G4:=Hd9 g4
   have G5:=Hd9 g5
   clear g3 g4 g5 hXM hXE hM1 hE1 hX hSX x1 x2 aX l1 u1 u2 u3 u4 u5 one hc9 hge hc t1 t2 t3 t4 t5 hJ hp
   obtain ⟨cel00,cel01,cel02⟩:=L.b0.a3
   obtain ⟨cel10,cel11,cel12⟩:=L.tl.b0.a3
   (try go_wp2_with fail)
   refine (G2.out _ _ _ (isD_n (m:=MC) (e:=EC) (s:=.slice B (zl MC) d) (L.getN (by simp))) (isD_n (m:=ML) (e:=EL) (s:=.slice A1 (zl ML) c1) (L.getN (by simp)))).mono ?_
   rintro e w41 ⟨rfl,be⟩
   clear cel00 cel01 cel02 cel10 cel11 cel12
   replace L:=L.step be
   clear be
   (try go_wp2_with fail)
   obtain ⟨V,hV,L9⟩:=L.name
   rw [hV]
   clear hV L
   have L:=L9
   clear L9
   have Q0:=Hd9 (fun Z (hZ:Below V.heap.size V Z) => (L.b0.mono hZ).c30)
   have Q1:=Hd9 (fun Z (hZ:Below V.heap.size V Z) => (L.b0.mono hZ).c31)
   have Q2:=Hd9 (fun Z (hZ:Below V.heap.size V Z) => (L.b0.mono hZ).c32)
   have hb0:=L.b0.lt
   have D0:Dq V V [(.slice B (zl MC) d,(MC:Int).natAbs)] [] [] []:=⟨((Lq.mk0 V).n (L.getN (v:=.slice B (zl MC) d) (x:=(MC:Int).natAbs) (by simp))),List.nodup_nil,fun p hp => by cases hp⟩
   have D:=D0.drew
   have hVw:=L.below.size
   have HVW:=Hd9 (fun Z (hZ:Below V.heap.size V Z) => L.below.trans (hZ.mono hVw))
   have LL:=Hd9 L
   clear L
   obtain ⟨K,hK⟩:=nm9 (V.heap.size)
   have hz0:K≤V.heap.size:=by omega
   have hmd:V.drew.heap.size = K:=hK
   have hc0:w.heap.size < K:=by omega
   go_cut [8] from 24 to 27 (fun s0 wx => Made1D V XM XE s0 wx)
   case first =>
    go_region_held3 (fun w' => w'.cell? ⟨w.heap.size,0,none⟩ = some (.bool (ng MC))∧w'.cell? ⟨w.heap.size,1,none⟩ = some (.slice B (zl MC) d)∧w'.cell? ⟨w.heap.size,2,none⟩ = some (.int .i64 EC)) (((try dsimp only);refine ⟨?_,?_,?_⟩ <;> (repeat (first | (with_reducible exact Q0.out _ D.lq.below) | (with_reducible exact Q0.out _ D0.lq.below) | (with_reducible exact Q1.out _ D.lq.below) | (with_reducible exact Q1.out _ D0.lq.below) | (with_reducible exact Q2.out _ D.lq.below) | (with_reducible exact Q2.out _ D0.lq.below) | (with_reducible refine c_alloc _ ?_) | (with_reducible refine c_drew ?_) | (with_reducible refine c_set ?_ (by assumption) ?_) | omega)))) (first | (go_at_call 111;(with_reducible refine (G3.out _ ?_).mono ?_);(· (first | (with_reducible exact HVW.out _ D.lq.below) | (with_reducible exact HVW.out _ (D.boxD false none 0 0 0).lq.below) | (with_reducible exact HVW.out _ (D0.boxD false none 0 0 0).drew.lq.below)));rintro e9 wh ⟨vh,rfl,id,be⟩;obtain ⟨A7,c7,rfl,_,in9⟩:=id.form;(first | (replace D:=D.step be) | (replace D:=(D.boxMD hmd false none 0 0 0).step be) | (replace D:=(D.boxD false none 0 0 0).step be));have hz:=be.size;(try simp at hz);replace D:=D.n in9;(try (obtain ⟨x00,x01,x02⟩:=D.lq.b0.a3;obtain ⟨y00,y01,y02⟩:=D.lq.b0.f3));(try obtain ⟨na,nb,nc,nd,nl⟩:=D.n0)) | (go_at_call 120;(with_reducible refine (G4.out _ _ _ ?_ ?_ ?_).mono ?_);(· (first | (with_reducible refine isD_n (D.getN ?_);(repeat (first | (with_reducible exact mS) | apply mT))) | (with_reducible refine isD_n ((D.boxD false none 0 0 0).getN ?_);(repeat (first | (with_reducible exact mS) | apply mT))) | (with_reducible refine isD_n ((D0.boxD false none 0 0 0).drew.getN ?_);(repeat (first | (with_reducible exact mS) | apply mT)))));(· (first | (with_reducible refine isD_n (D.getN ?_);(repeat (first | (with_reducible exact mS) | apply mT))) | (with_reducible refine isD_n ((D.boxD false none 0 0 0).getN ?_);(repeat (first | (with_reducible exact mS) | apply mT))) | (with_reducible refine isD_n ((D0.boxD false none 0 0 0).drew.getN ?_);(repeat (first | (with_reducible exact mS) | apply mT)))));(· (first | (with_reducible exact HVW.out _ D.lq.below) | (with_reducible exact HVW.out _ (D.boxD false none 0 0 0).lq.below) | (with_reducible exact HVW.out _ (D0.boxD false none 0 0 0).drew.lq.below)));rintro e9 wh ⟨vh,rfl,id,be⟩;obtain ⟨A8,c8,rfl,_,in9⟩:=id.form;(first | (replace D:=D.step be) | (replace D:=(D.boxMD hmd false none 0 0 0).step be) | (replace D:=(D.boxD false none 0 0 0).step be));have hz:=be.size;(try simp at hz);replace D:=D.n in9;(try (obtain ⟨x00,x01,x02⟩:=D.lq.b0.a3;obtain ⟨y00,y01,y02⟩:=D.lq.b0.f3));(try obtain ⟨na,nb,nc,nd,nl⟩:=D.n0)))
    all_goals
     go_wp2_with fail
     go_meet
     first
     | ((with_reducible refine made1d_a D ?_) <;> (repeat (first | (with_reducible exact mS) | apply mT)))
     | ((with_reducible refine made1d_b D ?_) <;> (repeat (first | (with_reducible exact mS) | apply mT)))
   case rest =>
    obtain ⟨gx,A9,c9,rfl,hg9,bw,hb9,q1⟩:=hcut
    have L:=((LL.out.step bw).n q1).b hb9
    have hl_gx:=hg9
    clear D D0 hmd LL hb9 q1 bw hg9 HVW Q0 Q1 Q2 hc0
    generalize wc = wd41 at *
    obtain ⟨cel00,cel01,cel02⟩:=L.b0.a3
    (try go_wp2_with fail)
    refine (G5.out _ _ (isD_n (m:=XM) (e:=XE) (s:=.slice A9 (zl XM) c9) (L.getN (by simp))) L.below).mono ?_
    rintro e w43 ⟨n,hn6,hn0,v9,rfl,iz,be⟩
    clear cel00 cel01 cel02
    obtain ⟨A5,c5,rfl,_,in9⟩:=iz.form
    replace L:=(L.step be).n in9
    clear be iz in9
    obtain ⟨hSX,hp,hjk⟩:=HS.out
    have aS:=sm_ab hSX (n:=n) (by omega)
    obtain ⟨t1,t2,t3,t4,t5⟩:=nx (x := -(p:Int)) aS (by omega) (by omega)
    obtain ⟨v1,v2,v3⟩:=nx_shl (k:=j) aS (by omega) (by omega) (show p≤2000 by omega)
    have g6:=fun x W h (hW:Below w.heap.size w W) => dshift_any (mkM (smA (X * X / 2 ^ p) X p n) (-(p:Int))) (mkE (smA (X * X / 2 ^ p) X p n) (-(p:Int))) (j:Int) x W h (by omega) (by omega) (by omega) (HT.out W hW)
    rw [v1,v2,v3] at g6
    have aZ:AbP (smA (X * X / 2 ^ p) X p n * 2 ^ j) (p + 20):=by
     have:=AbP.mul aS (show AbP ((2:Int) ^ j) j by unfold AbP;rw [Int.natAbs_pow];exact Nat.le_refl _)
     exact this.up (by omega)
    have HR:=Hd9 (And.intro (HE.out n hn0 hn6) aZ)
    generalize smA (X * X / 2 ^ p) X p n * 2 ^ j = Z at *
    clear v1 v2 v3 t1 t2 t3 t4 t5 aS aZ hn0 hn6 hSX hp HE HS
    obtain ⟨MS,hMS⟩:=nm9 (mkM (smA (X * X / 2 ^ p) X p n) (-(p:Int)))
    rw [hMS] at g6 L ⊢
    clear hMS
    obtain ⟨ES,hES⟩:=nm9 (mkE (smA (X * X / 2 ^ p) X p n) (-(p:Int)))
    rw [hES] at g6 ⊢
    clear hES
    obtain ⟨MZ,hMZ⟩:=nm9 (mkM Z (-(p:Int)))
    obtain ⟨EZ,hEZ⟩:=nm9 (mkE Z (-(p:Int)))
    rw [hMZ,hEZ] at g6
    have HZ:=Hd9 (And.intro hMZ hEZ)
    have G6:=Hd9 g6
    clear g6 hMZ hEZ
    (try go_wp2_with fail)
    refine (G6.out _ _ (isD_n (m:=MS) (e:=ES) (s:=.slice A5 (zl MS) c5) (L.getN (by simp))) L.below).mono ?_
    rintro e w44 ⟨v9,rfl,iz,be⟩
    obtain ⟨A6,c6,rfl,_,in9⟩:=iz.form
    replace L:=(L.step be).n in9
    clear be iz in9
    have hl9:=L.b0.lt
    have L9:=L.subx (ns':=[(.slice A6 (zl MZ) c6,MZ.natAbs)]) (bs':=[(w.heap.size + 1,26,#[.bool false,.slice none 0 0,.int .i64 0])]) (by simp) (by simp)
    clear L
    have L:=L9
    clear L9
    have n9:w.heap.size + 1 ≠ w44.heap.size:=by omega
    obtain ⟨cel00,cel01,cel02⟩:=L.b0.a3
    obtain ⟨f00,f01,f02⟩:=L.b0.f3
    have LN:=L.varD w44.heap.size rfl (ng MZ) A6 (zl MZ) c6 EZ
    obtain ⟨v0,v1,v2⟩:=LN.b0.a3
    obtain ⟨v3,v4,v5⟩:=LN.tl.b0.a3
    obtain ⟨v6,v7,v8⟩:=LN.tl.b0.f3
    go_wp2_with fail
    clear cel00 f00 cel01 f01 cel02 f02
    clear v0 v1 v2 v3 v4 v5 v6 v7 v8
    clear L
    have L:=LN.swap
    clear LN
    obtain ⟨hMZ,hEZ⟩:=HZ.out
    obtain ⟨hr1,hr2⟩:=HR.out
    have LP:=L.putD (by omega) (by first | (simp;done) | (simp;omega)) (ng MZ) A6 (zl MZ) c6 (EZ)
    obtain ⟨k0,k1,k2⟩:=LP.b0.a3
    unfold put3 at k0 k1 k2
    exact bodyPost_ret (v:=.agg #[.bool (ng MZ),.slice A6 (zl MZ) c6,.int .i64 (EZ)]) (by simp [results,Tryz.results110,go_sem,k0,k1,k2]) rfl ⟨Z,hr1,hr2,_,rfl,by rw [hMZ,hEZ];exact isD_n (LP.getN (by simp)),LP.below⟩


end Go.Proofs.YtiddbhhhmeopeaaGreatDoor
