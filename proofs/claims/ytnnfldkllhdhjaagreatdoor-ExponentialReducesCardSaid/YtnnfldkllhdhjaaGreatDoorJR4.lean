/- Joined: ExPR, ExD, RefCoF, RefCoH, DyOpen (what the law leans on). -/
import Derived.Test.YtnnfldkllhdhjaaGreatDoorBaseIR
import Derived.Test.YtnnfldkllhdhjaaGreatDoorBaseDR
import Derived.Test.YtnnfldkllhdhjaaGreatDoorBaseVR
import Derived.Test.YtnnfldkllhdhjaaGreatDoorGrPCR
import Derived.Test.YtnnfldkllhdhjaaGreatDoorBaseZR
import Derived.Test.YtnnfldkllhdhjaaGreatDoorJR1
import Derived.Test.YtnnfldkllhdhjaaGreatDoorJR2
import Derived.Test.YtnnfldkllhdhjaaGreatDoorJR3
import Derived.ChangeOld
import Derived.Deep.Cut
import Derived.Deep.CutRange
import Derived.Deep.DrawnRows
import Derived.Deep.RegionHeld3
import Derived.Lib.SmallJoins
import Derived.OpenShut
import Derived.ProofKit
namespace Go.Proofs.YtnnfldkllhdhjaaGreatDoor
open Go.RowKit
set_option linter.unusedVariables false
set_option linter.unusedSimpArgs false
set_option maxRecDepth 100000
attribute [local go_sem ↓] Go.wp_at_zero Go.wp_at_succ

set_option maxHeartbeats 4000000 in
theorem xred_w (m e k : Int) (vx : Value) (w : World) (hx : IsD w vx m e) (lm : zl m ≤ 25) (he : -3000 ≤ e ∧ e ≤ 3000) (hv : Dv m e) (hk : okX k 12 = false) (hT : Tab w) :
  Calls Tryz.prog 35 #[vx, .int .i64 k] w (RetRdc w 0 0 0 0 0 1):=by
 obtain ⟨A, c, rfl, _, hn⟩:=hx.form
 have L0:=(Lq.mk0 w).n hn
 have g1:=fun x W h => i10point_any m e x W h (by omega) (by omega) hv
 have g2:=fun W (hW : Below w.heap.size w W) => dof_any (-1000) W (by omega) (by omega) (hT.mono hW)
 have g3:=fun W (hW : Below w.heap.size w W) => dof_any 1000 W (by omega) (by omega) (hT.mono hW)
 have HP0:=fun W => xperm_any k 12 W
 rw [hk] at HP0
 generalize mkM (-1000) 0 = Ma at *
 generalize mkE (-1000) 0 = Ea at *
 generalize mkM 1000 0 = Mb at *
 generalize mkE 1000 0 = Eb at *
 have G1:=Lib.hid g1
 have G2:=Lib.hid g2
 have G3:=Lib.hid g3
 have HP:=Lib.hid HP0
 clear g1 g2 g3 HP0 hk hx
 go_enter Tryz.func35, Tryz.ntmps35
 have L:=((L0.varD (w.heap.size) (by simp) (ng m) A (zl m) c e).varI (w.heap.size + 1) (by simp) false none 0 0 0 false none 0 0 0)
 have c10:=L.tl.b0.c30
 have c11:=L.tl.b0.c31
 have c12:=L.tl.b0.c32
 (try go_wp2_with fail)
 refine (G1.out _ _ (isD_n (m:=m) (e:=e) (s:=.slice A (zl m) c) (L.getN (by simp)))).mono ?_
 rintro e w1 ⟨v9, rfl, ii, be⟩
 clear c10 c11 c12
 obtain ⟨A1, c1, B1, d1, rfl, ia, ib⟩:=ii.form
 replace L:=((L.step be).n ib).n ia
 clear be ii ia ib
 have hl9:=L.b0.lt
 replace L:=L.varI w1.heap.size rfl (ng m) A1 (zl m) c1 e (ng m) B1 (zl m) d1 e
 have c00:=L.b0.c60
 have c01:=L.b0.c61
 have c02:=L.b0.c62
 have c03:=L.b0.c63
 have c04:=L.b0.c64
 have c05:=L.b0.c65
 go_wp2_with fail
 clear c00 c01 c02 c03 c04 c05
 obtain ⟨gp, hgp⟩ : ∃ g9, w1.heap.size = g9:=⟨_, rfl⟩
 rw [hgp] at L hl9 ⊢
 clear hgp
 have hl_gp:=hl9
 clear hl9
 refine (G2.out _ L.below).mono ?_
 rintro e w2 ⟨v9, rfl, iz, be⟩
 obtain ⟨A2, c2, rfl, _, in9⟩:=iz.form
 replace L:=(L.step be).n in9
 clear be iz in9
 (try go_wp2_with fail)
 refine (G3.out _ L.below).mono ?_
 rintro e w3 ⟨v9, rfl, iz, be⟩
 obtain ⟨A3, c3, rfl, _, in9⟩:=iz.form
 replace L:=(L.step be).n in9
 clear be iz in9
 have hl9:=L.b0.lt
 replace L:=L.varI w3.heap.size rfl (ng Ma) A2 (zl Ma) c2 Ea (ng Mb) A3 (zl Mb) c3 Eb
 have c00:=L.b0.c60
 have c01:=L.b0.c61
 have c02:=L.b0.c62
 have c03:=L.b0.c63
 have c04:=L.b0.c64
 have c05:=L.b0.c65
 go_wp2_with fail
 clear c00 c01 c02 c03 c04 c05
 obtain ⟨ga, hga⟩ : ∃ g9, w3.heap.size = g9:=⟨_, rfl⟩
 rw [hga] at L hl9 ⊢
 clear hga
 have hl_ga:=hl9
 clear hl9
 have L9:=L.subx (ns':=[]) (bs':=[(w.heap.size + 1, 28, #[.bool false, .slice none 0 0, .int .i64 0, .bool false, .slice none 0 0, .int .i64 0])]) (by simp) (by simp)
 clear L
 have L:=L9
 clear L9
 refine (HP.out _).mono ?_
 rintro e9 w' ⟨rfl, rfl⟩
 have c00:=L.b0.c60
 have f00:=L.b0.fr 0
 have c01:=L.b0.c61
 have f01:=L.b0.fr 1
 have c02:=L.b0.c62
 have f02:=L.b0.fr 2
 have c03:=L.b0.c63
 have f03:=L.b0.fr 3
 have c04:=L.b0.c64
 have f04:=L.b0.fr 4
 have c05:=L.b0.c65
 have f05:=L.b0.fr 5
 go_wp2_with fail
 clear c00 f00 c01 f01 c02 f02 c03 f03 c04 f04 c05 f05
 have LP:=L.putI (by omega) (by first | (simp; done) | (simp; omega)) false none 0 0 0 false none 0 0 0
 have k0:=LP.b0.c60
 have k1:=LP.b0.c61
 have k2:=LP.b0.c62
 have k3:=LP.b0.c63
 have k4:=LP.b0.c64
 have k5:=LP.b0.c65
 unfold put6 at k0 k1 k2 k3 k4 k5
 exact bodyPost_ret (v:=.tuple #[.int .i64 0, .agg #[.bool false, .slice none 0 0, .int .i64 0, .bool false, .slice none 0 0, .int .i64 0], .int .i64 1]) (by simp [results, Tryz.results35, go_sem, k0, k1, k2, k3, k4, k5]) rfl ⟨_, rfl, isI_zero _, LP.below⟩
set_option maxHeartbeats 8000000 in
theorem xred_far (m e : Int) (k : Nat) (vx : Value) (w : World) (hx : IsD w vx m e) (lm : zl m ≤ 25) (he : -3000 ≤ e ∧ e ≤ 3000) (hv : Dv m e) (hsm : smallB m e m e = true) (hk : 12 ≤ k) (hk2 : k ≤ 4096) (hl : ¬ (-1000 ≤ dq m e ∧ dq m e ≤ 1000)) (hT : Tab w) :
  Calls Tryz.prog 35 #[vx, .int .i64 (k : Int)] w (RetRdc w 0 0 0 0 0 1):=by
 obtain ⟨A, c, rfl, _, hn⟩:=hx.form
 have L0:=(Lq.mk0 w).n hn
 
 have hba : AbP (-1000) 12:=by unfold AbP; decide
 have hbb : AbP 1000 12:=by unfold AbP; decide
 obtain ⟨za1, za2, za3, za4, za5, za6⟩:=nf hba (by omega)
 obtain ⟨zb1, zb2, zb3, zb4, zb5, zb6⟩:=nf hbb (by omega)
 rw [dq_int] at za6 zb6
 have g1:=fun x W h => i10point_any m e x W h (by omega) (by omega) hv
 have g2:=fun W (hW : Below w.heap.size w W) => dof_any (-1000) W (by omega) (by omega) (hT.mono hW)
 have g3:=fun W (hW : Below w.heap.size w W) => dof_any 1000 W (by omega) (by omega) (hT.mono hW)
 have g5:=fun x y W h j => i10within_any m e m e (mkM (-1000) 0) (mkE (-1000) 0) (mkM 1000 0) (mkE 1000 0) x y W h j (by omega) (by omega) (by omega) (by omega) (by omega) (by omega) (by omega) (by omega)
 have g4:=fun x W h => asmall_any m e m e x W h (by omega) (by omega) (by omega) (by omega) hv hv
 rw [hsm] at g4
 have hib:=inB_iff m e m e (mkM (-1000) 0) (mkE (-1000) 0) (mkM 1000 0) (mkE 1000 0)
 rw [za6, zb6] at hib
 have HP0:=fun W => xperm_any (k : Int) 12 W
 have hok : okX (k : Int) 12 = true:=by
  unfold okX
  rw [decide_eq_true (show (12 : Int) ≤ (k : Int) by omega), decide_eq_true (show (k : Int) ≤ 4096 by omega)]
  rfl
 rw [hok] at HP0
 generalize mkM (-1000) 0 = Ma at *
 generalize mkE (-1000) 0 = Ea at *
 generalize mkM 1000 0 = Mb at *
 generalize mkE 1000 0 = Eb at *
 have hin : inB m e m e Ma Ea Mb Eb = false:=by
  refine Bool.eq_false_iff.2 fun h => hl ?_
  exact hib.1 h
 rw [hin] at g5
 have G1:=Lib.hid g1
 have G2:=Lib.hid g2
 have G3:=Lib.hid g3
 have G4:=Lib.hid g4
 have G5:=Lib.hid g5
 have HP:=Lib.hid HP0
 clear g1 g2 g3 g4 g5 HP0 hib hin hl za1 za2 za3 za4 za5 za6 zb1 zb2 zb3 zb4 zb5 zb6 hba hbb hok hsm hx
 go_enter Tryz.func35, Tryz.ntmps35
 have L:=((L0.varD (w.heap.size) (by simp) (ng m) A (zl m) c e).varI (w.heap.size + 1) (by simp) false none 0 0 0 false none 0 0 0)
 have c10:=L.tl.b0.c30
 have c11:=L.tl.b0.c31
 have c12:=L.tl.b0.c32
 (try go_wp2_with fail)
 refine (G1.out _ _ (isD_n (m:=m) (e:=e) (s:=.slice A (zl m) c) (L.getN (by simp)))).mono ?_
 rintro e w1 ⟨v9, rfl, ii, be⟩
 clear c10 c11 c12
 obtain ⟨A1, c1, B1, d1, rfl, ia, ib⟩:=ii.form
 replace L:=((L.step be).n ib).n ia
 clear be ii ia ib
 have hl9:=L.b0.lt
 replace L:=L.varI w1.heap.size rfl (ng m) A1 (zl m) c1 e (ng m) B1 (zl m) d1 e
 have c00:=L.b0.c60
 have c01:=L.b0.c61
 have c02:=L.b0.c62
 have c03:=L.b0.c63
 have c04:=L.b0.c64
 have c05:=L.b0.c65
 go_wp2_with fail
 clear c00 c01 c02 c03 c04 c05
 obtain ⟨gp, hgp⟩ : ∃ g9, w1.heap.size = g9:=⟨_, rfl⟩
 rw [hgp] at L hl9 ⊢
 clear hgp
 have hl_gp:=hl9
 clear hl9
 refine (G2.out _ L.below).mono ?_
 rintro e w2 ⟨v9, rfl, iz, be⟩
 obtain ⟨A2, c2, rfl, _, in9⟩:=iz.form
 replace L:=(L.step be).n in9
 clear be iz in9
 (try go_wp2_with fail)
 refine (G3.out _ L.below).mono ?_
 rintro e w3 ⟨v9, rfl, iz, be⟩
 obtain ⟨A3, c3, rfl, _, in9⟩:=iz.form
 replace L:=(L.step be).n in9
 clear be iz in9
 have hl9:=L.b0.lt
 replace L:=L.varI w3.heap.size rfl (ng Ma) A2 (zl Ma) c2 Ea (ng Mb) A3 (zl Mb) c3 Eb
 have c00:=L.b0.c60
 have c01:=L.b0.c61
 have c02:=L.b0.c62
 have c03:=L.b0.c63
 have c04:=L.b0.c64
 have c05:=L.b0.c65
 go_wp2_with fail
 clear c00 c01 c02 c03 c04 c05
 obtain ⟨ga, hga⟩ : ∃ g9, w3.heap.size = g9:=⟨_, rfl⟩
 rw [hga] at L hl9 ⊢
 clear hga
 have hl_ga:=hl9
 clear hl9
 refine (HP.out _).mono ?_
 rintro e9 w' ⟨rfl, rfl⟩
 have c10:=L.tl.b0.c60
 have c11:=L.tl.b0.c61
 have c12:=L.tl.b0.c62
 have c13:=L.tl.b0.c63
 have c14:=L.tl.b0.c64
 have c15:=L.tl.b0.c65
 (try go_wp2_with fail)
 refine (G4.out _ _ (isI_n (m:=m) (e:=e) (n:=m) (f:=e) (s:=.slice A1 (zl m) c1) (t:=.slice B1 (zl m) d1) (L.getN (by simp)) (L.getN (by simp)))).mono ?_
 rintro e w4 ⟨rfl, be⟩
 clear c10 c11 c12 c13 c14 c15
 replace L:=L.step be
 clear be
 have c00:=L.b0.c60
 have c01:=L.b0.c61
 have c02:=L.b0.c62
 have c03:=L.b0.c63
 have c04:=L.b0.c64
 have c05:=L.b0.c65
 have c10:=L.tl.b0.c60
 have c11:=L.tl.b0.c61
 have c12:=L.tl.b0.c62
 have c13:=L.tl.b0.c63
 have c14:=L.tl.b0.c64
 have c15:=L.tl.b0.c65
 (try go_wp2_with fail)
 refine (G5.out _ _ _ (isI_n (m:=m) (e:=e) (n:=m) (f:=e) (s:=.slice A1 (zl m) c1) (t:=.slice B1 (zl m) d1) (L.getN (by simp)) (L.getN (by simp))) (isI_n (m:=Ma) (e:=Ea) (n:=Mb) (f:=Eb) (s:=.slice A2 (zl Ma) c2) (t:=.slice A3 (zl Mb) c3) (L.getN (by simp)) (L.getN (by simp)))).mono ?_
 rintro e w5 ⟨rfl, be⟩
 clear c00 c01 c02 c03 c04 c05 c10 c11 c12 c13 c14 c15
 replace L:=L.step be
 clear be
 have L9:=L.subx (ns':=[]) (bs':=[(w.heap.size + 1, 28, #[.bool false, .slice none 0 0, .int .i64 0, .bool false, .slice none 0 0, .int .i64 0])]) (by simp) (by simp)
 clear L
 have L:=L9
 clear L9
 have c00:=L.b0.c60
 have f00:=L.b0.fr 0
 have c01:=L.b0.c61
 have f01:=L.b0.fr 1
 have c02:=L.b0.c62
 have f02:=L.b0.fr 2
 have c03:=L.b0.c63
 have f03:=L.b0.fr 3
 have c04:=L.b0.c64
 have f04:=L.b0.fr 4
 have c05:=L.b0.c65
 have f05:=L.b0.fr 5
 go_wp2_with fail
 clear c00 f00 c01 f01 c02 f02 c03 f03 c04 f04 c05 f05
 have LP:=L.putI (by omega) (by first | (simp; done) | (simp; omega)) false none 0 0 0 false none 0 0 0
 have k0:=LP.b0.c60
 have k1:=LP.b0.c61
 have k2:=LP.b0.c62
 have k3:=LP.b0.c63
 have k4:=LP.b0.c64
 have k5:=LP.b0.c65
 unfold put6 at k0 k1 k2 k3 k4 k5
 exact bodyPost_ret (v:=.tuple #[.int .i64 0, .agg #[.bool false, .slice none 0 0, .int .i64 0, .bool false, .slice none 0 0, .int .i64 0], .int .i64 1]) (by simp [results, Tryz.results35, go_sem, k0, k1, k2, k3, k4, k5]) rfl ⟨_, rfl, isI_zero _, LP.below⟩
set_option maxHeartbeats 16000000 in
theorem xred_yes (m e : Int) (k : Nat) (vx : Value) (w : World) (hx : IsD w vx m e) (lm : zl m ≤ 25) (he : -3000 ≤ e ∧ e ≤ 3000) (hv : Dv m e) (hsm : smallB m e m e = true) (hk : 12 ≤ k) (hk2 : k ≤ 180) (hl : -512 ≤ dq m e ∧ dq m e ≤ 512) (hT : Tab w) :
  Calls Tryz.prog 35 #[vx, .int .i64 (k : Int)] w (RetRdY w k (dq m e)):=by
 obtain ⟨A, c, rfl, _, hn⟩:=hx.form
 have L0:=(Lq.mk0 w).n hn
 
 have hba : AbP (-1000) 12:=by unfold AbP; decide
 have hbb : AbP 1000 12:=by unfold AbP; decide
 obtain ⟨za1, za2, za3, za4, za5, za6⟩:=nf hba (by omega)
 obtain ⟨zb1, zb2, zb3, zb4, zb5, zb6⟩:=nf hbb (by omega)
 rw [dq_int] at za6 zb6
 have g1:=fun x W h => i10point_any m e x W h (by omega) (by omega) hv
 have g2:=fun W (hW : Below w.heap.size w W) => dof_any (-1000) W (by omega) (by omega) (hT.mono hW)
 have g3:=fun W (hW : Below w.heap.size w W) => dof_any 1000 W (by omega) (by omega) (hT.mono hW)
 have g5:=fun x y W h j => i10within_any m e m e (mkM (-1000) 0) (mkE (-1000) 0) (mkM 1000 0) (mkE 1000 0) x y W h j (by omega) (by omega) (by omega) (by omega) (by omega) (by omega) (by omega) (by omega)
 have g4:=fun x W h => asmall_any m e m e x W h (by omega) (by omega) (by omega) (by omega) hv hv
 rw [hsm] at g4
 have hib:=inB_iff m e m e (mkM (-1000) 0) (mkE (-1000) 0) (mkM 1000 0) (mkE 1000 0)
 rw [za6, zb6] at hib
 have HP0:=fun W => xperm_any (k : Int) 12 W
 have hok : okX (k : Int) 12 = true:=by
  unfold okX
  rw [decide_eq_true (show (12 : Int) ≤ (k : Int) by omega), decide_eq_true (show (k : Int) ≤ 4096 by omega)]
  rfl
 rw [hok] at HP0
 generalize mkM (-1000) 0 = Ma at *
 generalize mkE (-1000) 0 = Ea at *
 generalize mkM 1000 0 = Mb at *
 generalize mkE 1000 0 = Eb at *
 have hin : inB m e m e Ma Ea Mb Eb = true:=by
  refine hib.2 ⟨Rat.le_trans ?_ hl.1, Rat.le_trans hl.2 ?_⟩
  ·exact (by decide +kernel : ((-1000 : Int) : Rat) ≤ -512)
  ·exact (by decide +kernel : (512 : Rat) ≤ ((1000 : Int) : Rat))
 rw [hin] at g5
 obtain ⟨T0, T1, S1, S2, N, U1, U2, R1, R2, hS0, hS1, C0, C1, e1, a1, a2, eN, e2, a3, a4, hUU, e3, hR⟩:=red_all hk hk2 hl
 have hN:=hR.1
 -- the logarithm, roughly
 obtain ⟨p1, p2, p3⟩:=red_pos C0
 obtain ⟨l1, l2, l3, l4, l5⟩:=np C0.al (by omega) (show 32 ≤ 3000 by omega)
 obtain ⟨h1, h2, h3, h4, h5⟩:=np C0.ah (by omega) (show 32 ≤ 3000 by omega)
 have g6:=fun W (hW : Below w.heap.size w W) => cln_yes 32 T0 W (by omega) (hT.mono hW) hS0
 rw [show dq (loC T0) (-((32 : Nat) : Int)) = l32 T0 from rfl] at l5
 rw [show dq (hiC T0) (-((32 : Nat) : Int)) = u32 T0 from rfl] at h5
 obtain ⟨Ml, hMl⟩ : ∃ z, mkM (loC T0) (-((32 : Nat) : Int)) = z:=⟨_, rfl⟩
 obtain ⟨El, hEl⟩ : ∃ z, mkE (loC T0) (-((32 : Nat) : Int)) = z:=⟨_, rfl⟩
 obtain ⟨Mh, hMh⟩ : ∃ z, mkM (hiC T0) (-((32 : Nat) : Int)) = z:=⟨_, rfl⟩
 obtain ⟨Eh, hEh⟩ : ∃ z, mkE (hiC T0) (-((32 : Nat) : Int)) = z:=⟨_, rfl⟩
 rw [hMl] at l2
 rw [hEl] at l3
 rw [hMl, hEl] at l5
 rw [hMh] at h2
 rw [hEh] at h3
 rw [hMh, hEh] at h5
 rw [hMl, hEl, hMh, hEh] at g6
 have pl : cmpI Ml 0 = 1:=by
  have h:=(dq_lt_iff 0 Ml El)
  rw [dq_zero, l5] at h
  have:=h.1 p1
  unfold cmpI
  (repeat' split) <;> omega
 have ph : cmpI Mh 0 = 1:=by
  have h:=(dq_lt_iff 0 Mh Eh)
  rw [dq_zero, h5] at h
  have:=h.1 p2
  unfold cmpI
  (repeat' split) <;> omega
 have hlh : dcm Ml El Mh Eh ≤ 0:=(dcm_le _ _ _ _).2 (by rw [l5, h5]; exact p3)
 have g7:=fun x y W h j (hW : Below w.heap.size w W) => adiv_pos m e m e Ml El Mh Eh ((32 : Nat) : Int) x y W h j lm lm (by omega) (by omega) he he (by omega) (by omega) (by rw [dcm_self]; omega) hlh (by omega) (by omega) (hT.mono hW) (by decide) (by rw [pl, ph]) (by rw [pl]; omega) (by rw [pl]; omega)
 rw [l5, h5] at g7
 simp only [e1] at g7
 obtain ⟨s1, s2, s3, s4, s5⟩:=np a1 (by omega) (show 32 ≤ 3000 by omega)
 obtain ⟨Q, hQ⟩ : ∃ z, mkM S1 (-((32 : Nat) : Int)) = z:=⟨_, rfl⟩
 obtain ⟨P, hP⟩ : ∃ z, mkE S1 (-((32 : Nat) : Int)) = z:=⟨_, rfl⟩
 obtain ⟨U, hU⟩ : ∃ z, mkM S2 (-((32 : Nat) : Int)) = z:=⟨_, rfl⟩
 obtain ⟨V5, hV5⟩ : ∃ z, mkE S2 (-((32 : Nat) : Int)) = z:=⟨_, rfl⟩
 rw [hQ] at s2
 rw [hP] at s3
 rw [hQ, hP] at s5
 rw [hQ, hP, hU, hV5] at g7
 -- the whole number
 have g8:=fun x W h (hW : Below w.heap.size w W) => gnear_any Q P 0 x W h (by omega) (by omega) (by omega) (by omega) (hT.mono hW)
 rw [s5, eN] at g8
 have hp0 : permB 0 = true:=by decide
 obtain ⟨y1, y2, y3⟩:=g_yes hp0 N
 rw [Int.neg_zero] at y1 y2 y3
 have hbN : AbP N 10:=by
  have e10 : (2 : Nat) ^ 10 = 1024:=by decide
  unfold AbP
  rw [e10]
  omega
 obtain ⟨n1, _, n3, n4, _, n6⟩:=nf hbN (by omega)
 have n2 : zl (mkM N 0) ≤ 1:=Nat.le_trans (zl_mk _ _) (Nat.le_trans hbN.zl (by omega))
 have n5 : mkE N 0 ≤ 100:=by rcases mkE_at n1 hbN.zl with e | e <;> omega
 have ndv : Dv (mkM N 0) (mkE N 0):=mk_ok n1
 rw [dq_int] at n6
 rw [y1, y2, y3, n1] at g8
 have g12:=fun x W h => xwhole_any N x W h (by omega)
 obtain ⟨Mn, hMn⟩ : ∃ z, mkM N 0 = z:=⟨_, rfl⟩
 obtain ⟨En, hEn⟩ : ∃ z, mkE N 0 = z:=⟨_, rfl⟩
 rw [hMn] at n2
 rw [hEn] at n3 n5
 rw [hMn, hEn] at g8 g12 ndv n6
 -- the logarithm
 obtain ⟨j, hj⟩ : ∃ j : Nat, k + 12 = j:=⟨_, rfl⟩
 have hji : (j : Int) = (k : Int) + 12:=by omega
 have hjb : j ≤ 192:=by omega
 have w1 : IntKind.i64.wrap ((k : Int) + 12) = (j : Int):=by rw [IntKind.wrap_i64]; omega
 obtain ⟨_, _, hlu⟩:=C1.lnq
 obtain ⟨hl9, hu9, _⟩:=C1.lnq
 have lu:=Rat.le_trans hl9 hu9
 unfold l12 u12 at e2
 rw [hj] at C1 hS1 lu e2
 have g9:=fun W (hW : Below w.heap.size w W) => cln_yes j T1 W (by omega) (hT.mono hW) hS1
 obtain ⟨i1, i2, i3, i4, i5⟩:=np C1.al (by omega) (show j ≤ 3000 by omega)
 obtain ⟨o1, o2, o3, o4, o5⟩:=np C1.ah (by omega) (show j ≤ 3000 by omega)
 obtain ⟨Mi, hMi⟩ : ∃ z, mkM (loC T1) (-(j : Int)) = z:=⟨_, rfl⟩
 obtain ⟨Ei, hEi⟩ : ∃ z, mkE (loC T1) (-(j : Int)) = z:=⟨_, rfl⟩
 obtain ⟨Mo, hMo⟩ : ∃ z, mkM (hiC T1) (-(j : Int)) = z:=⟨_, rfl⟩
 obtain ⟨Eo, hEo⟩ : ∃ z, mkE (hiC T1) (-(j : Int)) = z:=⟨_, rfl⟩
 rw [hMi] at i2
 rw [hEi] at i3
 rw [hMi, hEi] at i5
 rw [hMo] at o2
 rw [hEo] at o3
 rw [hMo, hEo] at o5
 rw [hMi, hEi, hMo, hEo, hji] at g9
 have hio : dcm Mi Ei Mo Eo ≤ 0:=(dcm_le _ _ _ _).2 (by rw [i5, o5]; exact lu)
 have g10:=fun x W h => i10point_any Mn En x W h (by omega) (by omega) ndv
 have g11:=fun x y W h i (hW : Below w.heap.size w W) => amul_any Mn En Mn En Mi Ei Mo Eo (k : Int) x y W h i (by omega) (by omega) (by omega) (by omega) (by omega) (by omega) (by omega) (by omega) (by rw [dcm_self]; omega) hio (by omega) (by omega) (hT.mono hW)
 rw [n6, i5, o5] at g11
 simp only [e2] at g11
 obtain ⟨t1, t2, t3, t4, t5⟩:=np a3 (by omega) (show k ≤ 3000 by omega)
 obtain ⟨v1, v2, v3, v4, v5⟩:=np a4 (by omega) (show k ≤ 3000 by omega)
 obtain ⟨Mt, hMt⟩ : ∃ z, mkM U1 (-(k : Int)) = z:=⟨_, rfl⟩
 obtain ⟨Et, hEt⟩ : ∃ z, mkE U1 (-(k : Int)) = z:=⟨_, rfl⟩
 obtain ⟨Mv, hMv⟩ : ∃ z, mkM U2 (-(k : Int)) = z:=⟨_, rfl⟩
 obtain ⟨Ev, hEv⟩ : ∃ z, mkE U2 (-(k : Int)) = z:=⟨_, rfl⟩
 rw [hMt] at t2
 rw [hEt] at t3
 rw [hMt, hEt] at t5
 rw [hMv] at v2
 rw [hEv] at v3
 rw [hMv, hEv] at v5
 rw [hMt, hEt, hMv, hEv] at g11
 have htv : dcm Mt Et Mv Ev ≤ 0:=(dcm_le _ _ _ _).2 (by rw [t5, v5]; exact (dq_le_iff _ _ _).2 hUU)
 have g13:=fun x y W h i (hW : Below w.heap.size w W) => asub_any m e m e Mt Et Mv Ev (k : Int) x y W h i lm lm (by omega) (by omega) he he (by omega) (by omega) (by rw [dcm_self]; omega) htv (by omega) (by omega) (hT.mono hW)
 rw [t5, v5] at g13
 simp only [e3] at g13
 obtain ⟨Mr, hMr⟩ : ∃ z, mkM R1 (-(k : Int)) = z:=⟨_, rfl⟩
 obtain ⟨Er, hEr⟩ : ∃ z, mkE R1 (-(k : Int)) = z:=⟨_, rfl⟩
 obtain ⟨Ms, hMs⟩ : ∃ z, mkM R2 (-(k : Int)) = z:=⟨_, rfl⟩
 obtain ⟨Es, hEs⟩ : ∃ z, mkE R2 (-(k : Int)) = z:=⟨_, rfl⟩
 rw [hMr, hEr, hMs, hEs] at g13
 rw [show ((32 : Nat) : Int) = 32 from rfl] at g6 g7
 have HR:=Lib.hid (And.intro hR (And.intro (And.intro hMr hEr) (And.intro hMs hEs)))
 have G1:=Lib.hid g1
 have G2:=Lib.hid g2
 have G3:=Lib.hid g3
 have G4:=Lib.hid g4
 have G5:=Lib.hid g5
 have G6:=Lib.hid g6
 have G7:=Lib.hid g7
 have G8:=Lib.hid g8
 have G9:=Lib.hid g9
 have G10:=Lib.hid g10
 have G11:=Lib.hid g11
 have G12:=Lib.hid g12
 have G13:=Lib.hid g13
 have HP:=Lib.hid HP0
 clear g1 g2 g3 g4 g5 g6 g7 g8 g9 g10 g11 g12 g13 HP0 hib hin hl za1 za2 za3 za4 za5 za6 zb1 zb2 zb3 zb4 zb5 zb6 hba hbb hok hsm hx hS0 hS1 C0 C1 e1 a1 a2 eN e2 a3 a4 hUU e3 hR hN p1 p2 p3 l1 l2 l3 l4 l5 h1 h2 h3 h4 h5 hMl hEl hMh hEh pl ph hlh s1 s2 s3 s4 s5 hQ hP hU hV5 hp0 y1 y2 y3 hbN n1 n2 n3 n4 n5 n6 ndv hMn hEn hj hlu hl9 hu9 lu i1 i2 i3 i4 i5 o1 o2 o3 o4 o5 hMi hEi hMo hEo hio t1 t2 t3 t4 t5 v1 v2 v3 v4 v5 hMt hEt hMv hEv htv hMr hEr hMs hEs hv he lm
 go_enter Tryz.func35, Tryz.ntmps35
 have L:=((L0.varD (w.heap.size) (by simp) (ng m) A (zl m) c e).varI (w.heap.size + 1) (by simp) false none 0 0 0 false none 0 0 0)
 have c10:=L.tl.b0.c30
 have c11:=L.tl.b0.c31
 have c12:=L.tl.b0.c32
 (try go_wp2_with fail)
 refine (G1.out _ _ (isD_n (m:=m) (e:=e) (s:=.slice A (zl m) c) (L.getN (by simp)))).mono ?_
 rintro e w1 ⟨v9, rfl, ii, be⟩
 clear c10 c11 c12
 obtain ⟨A1, c1, B1, d1, rfl, ia, ib⟩:=ii.form
 replace L:=((L.step be).n ib).n ia
 clear be ii ia ib
 have hl9:=L.b0.lt
 replace L:=L.varI w1.heap.size rfl (ng m) A1 (zl m) c1 e (ng m) B1 (zl m) d1 e
 have c00:=L.b0.c60
 have c01:=L.b0.c61
 have c02:=L.b0.c62
 have c03:=L.b0.c63
 have c04:=L.b0.c64
 have c05:=L.b0.c65
 go_wp2_with fail
 clear c00 c01 c02 c03 c04 c05
 obtain ⟨gp, hgp⟩ : ∃ g9, w1.heap.size = g9:=⟨_, rfl⟩
 rw [hgp] at L hl9 ⊢
 clear hgp
 have hl_gp:=hl9
 clear hl9
 refine (G2.out _ L.below).mono ?_
 rintro e w2 ⟨v9, rfl, iz, be⟩
 obtain ⟨A2, c2, rfl, _, in9⟩:=iz.form
 replace L:=(L.step be).n in9
 clear be iz in9
 (try go_wp2_with fail)
 refine (G3.out _ L.below).mono ?_
 rintro e w3 ⟨v9, rfl, iz, be⟩
 obtain ⟨A3, c3, rfl, _, in9⟩:=iz.form
 replace L:=(L.step be).n in9
 clear be iz in9
 have hl9:=L.b0.lt
 replace L:=L.varI w3.heap.size rfl (ng Ma) A2 (zl Ma) c2 Ea (ng Mb) A3 (zl Mb) c3 Eb
 have c00:=L.b0.c60
 have c01:=L.b0.c61
 have c02:=L.b0.c62
 have c03:=L.b0.c63
 have c04:=L.b0.c64
 have c05:=L.b0.c65
 go_wp2_with fail
 clear c00 c01 c02 c03 c04 c05
 obtain ⟨ga, hga⟩ : ∃ g9, w3.heap.size = g9:=⟨_, rfl⟩
 rw [hga] at L hl9 ⊢
 clear hga
 have hl_ga:=hl9
 clear hl9
 refine (HP.out _).mono ?_
 rintro e9 w' ⟨rfl, rfl⟩
 have c10:=L.tl.b0.c60
 have c11:=L.tl.b0.c61
 have c12:=L.tl.b0.c62
 have c13:=L.tl.b0.c63
 have c14:=L.tl.b0.c64
 have c15:=L.tl.b0.c65
 (try go_wp2_with fail)
 refine (G4.out _ _ (isI_n (m:=m) (e:=e) (n:=m) (f:=e) (s:=.slice A1 (zl m) c1) (t:=.slice B1 (zl m) d1) (L.getN (by simp)) (L.getN (by simp)))).mono ?_
 rintro e w4 ⟨rfl, be⟩
 clear c10 c11 c12 c13 c14 c15
 replace L:=L.step be
 clear be
 have c00:=L.b0.c60
 have c01:=L.b0.c61
 have c02:=L.b0.c62
 have c03:=L.b0.c63
 have c04:=L.b0.c64
 have c05:=L.b0.c65
 have c10:=L.tl.b0.c60
 have c11:=L.tl.b0.c61
 have c12:=L.tl.b0.c62
 have c13:=L.tl.b0.c63
 have c14:=L.tl.b0.c64
 have c15:=L.tl.b0.c65
 (try go_wp2_with fail)
 refine (G5.out _ _ _ (isI_n (m:=m) (e:=e) (n:=m) (f:=e) (s:=.slice A1 (zl m) c1) (t:=.slice B1 (zl m) d1) (L.getN (by simp)) (L.getN (by simp))) (isI_n (m:=Ma) (e:=Ea) (n:=Mb) (f:=Eb) (s:=.slice A2 (zl Ma) c2) (t:=.slice A3 (zl Mb) c3) (L.getN (by simp)) (L.getN (by simp)))).mono ?_
 rintro e w5 ⟨rfl, be⟩
 clear c00 c01 c02 c03 c04 c05 c10 c11 c12 c13 c14 c15
 replace L:=L.step be
 clear be
 (try go_wp2_with fail)
 refine (G6.out _ L.below).mono ?_
 rintro e w6 ⟨v9, rfl, ii, be⟩
 obtain ⟨A4, c4, B4, d4, rfl, ia, ib⟩:=ii.form
 replace L:=((L.step be).n ib).n ia
 clear be ii ia ib
 have hl9:=L.b0.lt
 replace L:=L.varI w6.heap.size rfl (ng Ml) A4 (zl Ml) c4 El (ng Mh) B4 (zl Mh) d4 Eh
 have c00:=L.b0.c60
 have c01:=L.b0.c61
 have c02:=L.b0.c62
 have c03:=L.b0.c63
 have c04:=L.b0.c64
 have c05:=L.b0.c65
 have c20:=L.tl.tl.b0.c60
 have c21:=L.tl.tl.b0.c61
 have c22:=L.tl.tl.b0.c62
 have c23:=L.tl.tl.b0.c63
 have c24:=L.tl.tl.b0.c64
 have c25:=L.tl.tl.b0.c65
 go_wp2_with fail
 clear c00 c01 c02 c03 c04 c05 c20 c21 c22 c23 c24 c25
 obtain ⟨gl, hgl⟩ : ∃ g9, w6.heap.size = g9:=⟨_, rfl⟩
 rw [hgl] at L hl9 ⊢
 clear hgl
 have hl_gl:=hl9
 clear hl9
 refine (G7.out _ _ _ (isI_n (m:=m) (e:=e) (n:=m) (f:=e) (s:=.slice A1 (zl m) c1) (t:=.slice B1 (zl m) d1) (L.getN (by simp)) (L.getN (by simp))) (isI_n (m:=Ml) (e:=El) (n:=Mh) (f:=Eh) (s:=.slice A4 (zl Ml) c4) (t:=.slice B4 (zl Mh) d4) (L.getN (by simp)) (L.getN (by simp))) L.below).mono ?_
 rintro e w7 ⟨v9, rfl, ii, be⟩
 obtain ⟨A5, c5, B5, d5, rfl, ia, ib⟩:=ii.form
 replace L:=((L.step be).n ib).n ia
 clear be ii ia ib
 have hl9:=L.b0.lt
 replace L:=L.varI w7.heap.size rfl (ng Q) A5 (zl Q) c5 P (ng U) B5 (zl U) d5 V5
 have c00:=L.b0.c60
 have c01:=L.b0.c61
 have c02:=L.b0.c62
 have c03:=L.b0.c63
 have c04:=L.b0.c64
 have c05:=L.b0.c65
 go_wp2_with fail
 clear c00 c01 c02 c03 c04 c05
 obtain ⟨gq, hgq⟩ : ∃ g9, w7.heap.size = g9:=⟨_, rfl⟩
 rw [hgq] at L hl9 ⊢
 clear hgq
 have hl_gq:=hl9
 clear hl9
 refine (G8.out _ _ (isD_n (m:=Q) (e:=P) (s:=.slice A5 (zl Q) c5) (L.getN (by simp))) L.below).mono ?_
 rintro e w8 ⟨v9, rfl, iz, be⟩
 obtain ⟨A6, c6, rfl, _, in9⟩:=iz.form
 replace L:=(L.step be).n in9
 clear be iz in9
 have hl9:=L.b0.lt
 replace L:=L.varD w8.heap.size rfl (ng Mn) A6 (zl Mn) c6 En
 have c00:=L.b0.c30
 have c01:=L.b0.c31
 have c02:=L.b0.c32
 go_wp2_with fail
 clear c00 c01 c02
 obtain ⟨gn, hgn⟩ : ∃ g9, w8.heap.size = g9:=⟨_, rfl⟩
 rw [hgn] at L hl9 ⊢
 clear hgn
 have hl_gn:=hl9
 clear hl9
 refine (G9.out _ L.below).mono ?_
 rintro e w9 ⟨v9, rfl, ii, be⟩
 obtain ⟨A7, c7, B7, d7, rfl, ia, ib⟩:=ii.form
 replace L:=((L.step be).n ib).n ia
 clear be ii ia ib
 have L9:=L.subx (ns':=[(.slice A1 (zl m) c1, m.natAbs), (.slice B1 (zl m) d1, m.natAbs), (.slice A6 (zl Mn) c6, Mn.natAbs), (.slice A7 (zl Mi) c7, Mi.natAbs), (.slice B7 (zl Mo) d7, Mo.natAbs)]) (bs':=[(gl, 28, #[.bool (ng Ml), .slice A4 (zl Ml) c4, .int .i64 El, .bool (ng Mh), .slice B4 (zl Mh) d4, .int .i64 Eh]), (gn, 26, #[.bool (ng Mn), .slice A6 (zl Mn) c6, .int .i64 En]), (gp, 28, #[.bool (ng m), .slice A1 (zl m) c1, .int .i64 e, .bool (ng m), .slice B1 (zl m) d1, .int .i64 e]), (w.heap.size + 1, 28, #[.bool false, .slice none 0 0, .int .i64 0, .bool false, .slice none 0 0, .int .i64 0])]) (by simp) (by simp)
 clear L
 have L:=L9
 clear L9
 have nn1 : gl ≠ gn:=by omega
 have nn2 : gl ≠ gp:=by omega
 have nn3 : gl ≠ w.heap.size + 1:=by omega
 have c00:=L.b0.c60
 have f00:=L.b0.fr 0
 have c01:=L.b0.c61
 have f01:=L.b0.fr 1
 have c02:=L.b0.c62
 have f02:=L.b0.fr 2
 have c03:=L.b0.c63
 have f03:=L.b0.fr 3
 have c04:=L.b0.c64
 have f04:=L.b0.fr 4
 have c05:=L.b0.c65
 have f05:=L.b0.fr 5
 have P9:=L.putI (by omega) (by simp [nn1, nn2, nn3, Ne.symm nn1, Ne.symm nn2, Ne.symm nn3]) (ng Mi) A7 (zl Mi) c7 Ei (ng Mo) B7 (zl Mo) d7 Eo
 unfold put6 at P9
 (try go_wp2_with fail)
 replace L:=P9
 clear P9
 clear c00 f00 c01 f01 c02 f02 c03 f03 c04 f04 c05 f05
 obtain ⟨V, hV, L9⟩:=L.name
 rw [hV]
 clear hV L
 have L:=L9
 clear L9
 have Q0:=Lib.hid (fun Z (hZ : Below V.heap.size V Z) => (L.b0.mono hZ).c60)
 have Q1:=Lib.hid (fun Z (hZ : Below V.heap.size V Z) => (L.b0.mono hZ).c61)
 have Q2:=Lib.hid (fun Z (hZ : Below V.heap.size V Z) => (L.b0.mono hZ).c62)
 have Q3:=Lib.hid (fun Z (hZ : Below V.heap.size V Z) => (L.b0.mono hZ).c63)
 have Q4:=Lib.hid (fun Z (hZ : Below V.heap.size V Z) => (L.b0.mono hZ).c64)
 have Q5:=Lib.hid (fun Z (hZ : Below V.heap.size V Z) => (L.b0.mono hZ).c65)
 have Q6:=Lib.hid (fun Z (hZ : Below V.heap.size V Z) => (L.tl.b0.mono hZ).c30)
 have Q7:=Lib.hid (fun Z (hZ : Below V.heap.size V Z) => (L.tl.b0.mono hZ).c31)
 have Q8:=Lib.hid (fun Z (hZ : Below V.heap.size V Z) => (L.tl.b0.mono hZ).c32)
 have hb0:=L.b0.lt
 have hb1:=L.tl.b0.lt
 have D0 : Dq V V [(.slice A6 (zl Mn) c6, (Mn : Int).natAbs), (.slice A7 (zl Mi) c7, (Mi : Int).natAbs), (.slice B7 (zl Mo) d7, (Mo : Int).natAbs)] [] [] []:=⟨((((Lq.mk0 V).n (L.getN (v:=.slice B7 (zl Mo) d7) (x:=(Mo : Int).natAbs) (by simp))).n (L.getN (v:=.slice A7 (zl Mi) c7) (x:=(Mi : Int).natAbs) (by simp))).n (L.getN (v:=.slice A6 (zl Mn) c6) (x:=(Mn : Int).natAbs) (by simp))), List.nodup_nil, fun p hp => by cases hp⟩
 have D:=D0.drew
 have hVw:=L.below.size
 have HVW:=Lib.hid (fun Z (hZ : Below V.heap.size V Z) => L.below.trans (hZ.mono hVw))
 have LL:=Lib.hid L
 clear L
 obtain ⟨K, hK⟩ : ∃ K, V.heap.size = K:=⟨_, rfl⟩
 have hz0 : K ≤ V.heap.size:=by omega
 have hmd : V.drew.heap.size = K:=hK
 have hc0 : gl < K:=by omega
 have hc1 : gn < K:=by omega
 go_cut [15, 16] from 61 to 69 (fun s0 s1 wx => s1 = .int .i64 0 ∧ Made1I V Mt Et Mv Ev s0 wx)
 case first =>
  go_region_held3 (fun w' => w'.cell? ⟨gl, 0, none⟩ = some (.bool (ng Mi)) ∧ w'.cell? ⟨gl, 1, none⟩ = some (.slice A7 (zl Mi) c7) ∧ w'.cell? ⟨gl, 2, none⟩ = some (.int .i64 Ei) ∧ w'.cell? ⟨gl, 3, none⟩ = some (.bool (ng Mo)) ∧ w'.cell? ⟨gl, 4, none⟩ = some (.slice B7 (zl Mo) d7) ∧ w'.cell? ⟨gl, 5, none⟩ = some (.int .i64 Eo) ∧ w'.cell? ⟨gn, 0, none⟩ = some (.bool (ng Mn)) ∧ w'.cell? ⟨gn, 1, none⟩ = some (.slice A6 (zl Mn) c6) ∧ w'.cell? ⟨gn, 2, none⟩ = some (.int .i64 En)) (((try dsimp only); refine ⟨?_, ?_, ?_, ?_, ?_, ?_, ?_, ?_, ?_⟩ <;> (repeat (first | (with_reducible exact Q0.out _ D.lq.below) | (with_reducible exact Q0.out _ D0.lq.below) | (with_reducible exact Q1.out _ D.lq.below) | (with_reducible exact Q1.out _ D0.lq.below) | (with_reducible exact Q2.out _ D.lq.below) | (with_reducible exact Q2.out _ D0.lq.below) | (with_reducible exact Q3.out _ D.lq.below) | (with_reducible exact Q3.out _ D0.lq.below) | (with_reducible exact Q4.out _ D.lq.below) | (with_reducible exact Q4.out _ D0.lq.below) | (with_reducible exact Q5.out _ D.lq.below) | (with_reducible exact Q5.out _ D0.lq.below) | (with_reducible exact Q6.out _ D.lq.below) | (with_reducible exact Q6.out _ D0.lq.below) | (with_reducible exact Q7.out _ D.lq.below) | (with_reducible exact Q7.out _ D0.lq.below) | (with_reducible exact Q8.out _ D.lq.below) | (with_reducible exact Q8.out _ D0.lq.below) | (with_reducible refine c_alloc _ ?_) | (with_reducible refine c_drew ?_) | (with_reducible refine c_set ?_ (by assumption) ?_) | omega)))) (first | (go_at_call 88; (with_reducible refine (G10.out _ _ ?_).mono ?_); (· (first | (with_reducible refine isD_n (D.getN ?_); (repeat (first | (with_reducible exact List.mem_cons_self) | apply List.mem_cons_of_mem))) | (with_reducible refine isD_n ((D.boxI false none 0 0 0 false none 0 0 0).getN ?_); (repeat (first | (with_reducible exact List.mem_cons_self) | apply List.mem_cons_of_mem))) | (with_reducible refine isD_n ((D0.boxI false none 0 0 0 false none 0 0 0).drew.getN ?_); (repeat (first | (with_reducible exact List.mem_cons_self) | apply List.mem_cons_of_mem))))); rintro e9 wh ⟨vh, rfl, ii, be⟩; obtain ⟨Ap, cp, Bp, dp, rfl, ia, ib⟩:=ii.form; (first | (replace D:=D.step be) | (replace D:=(D.boxMI hmd false none 0 0 0 false none 0 0 0).step be) | (replace D:=(D.boxI false none 0 0 0 false none 0 0 0).step be)); have hz:=be.size; (try simp at hz); replace D:=(D.n ib).n ia; (try (have x00:=D.lq.b0.c60; have y00:=D.lq.b0.fr 0; have x01:=D.lq.b0.c61; have y01:=D.lq.b0.fr 1; have x02:=D.lq.b0.c62; have y02:=D.lq.b0.fr 2; have x03:=D.lq.b0.c63; have y03:=D.lq.b0.fr 3; have x04:=D.lq.b0.c64; have y04:=D.lq.b0.fr 4; have x05:=D.lq.b0.c65; have y05:=D.lq.b0.fr 5)); (try obtain ⟨na, nb, nc, nd, nl⟩:=D.n0)) | (go_at_call 26; (with_reducible refine (G11.out _ _ _ ?_ ?_ ?_).mono ?_); (· (first | (with_reducible refine isI_n (D.getN ?_) (D.getN ?_) <;> (repeat (first | (with_reducible exact List.mem_cons_self) | apply List.mem_cons_of_mem))) | (with_reducible refine isI_n ((D.boxI false none 0 0 0 false none 0 0 0).getN ?_) ((D.boxI false none 0 0 0 false none 0 0 0).getN ?_) <;> (repeat (first | (with_reducible exact List.mem_cons_self) | apply List.mem_cons_of_mem))) | (with_reducible refine isI_n ((D0.boxI false none 0 0 0 false none 0 0 0).drew.getN ?_) ((D0.boxI false none 0 0 0 false none 0 0 0).drew.getN ?_) <;> (repeat (first | (with_reducible exact List.mem_cons_self) | apply List.mem_cons_of_mem))))); (· (first | (with_reducible refine isI_n (D.getN ?_) (D.getN ?_) <;> (repeat (first | (with_reducible exact List.mem_cons_self) | apply List.mem_cons_of_mem))) | (with_reducible refine isI_n ((D.boxI false none 0 0 0 false none 0 0 0).getN ?_) ((D.boxI false none 0 0 0 false none 0 0 0).getN ?_) <;> (repeat (first | (with_reducible exact List.mem_cons_self) | apply List.mem_cons_of_mem))) | (with_reducible refine isI_n ((D0.boxI false none 0 0 0 false none 0 0 0).drew.getN ?_) ((D0.boxI false none 0 0 0 false none 0 0 0).drew.getN ?_) <;> (repeat (first | (with_reducible exact List.mem_cons_self) | apply List.mem_cons_of_mem))))); (· (first | (with_reducible exact HVW.out _ D.lq.below) | (with_reducible exact HVW.out _ (D.boxI false none 0 0 0 false none 0 0 0).lq.below) | (with_reducible exact HVW.out _ (D0.boxI false none 0 0 0 false none 0 0 0).drew.lq.below))); rintro e9 wh ⟨vh, rfl, ii, be⟩; obtain ⟨Am, cm, Bm, dm, rfl, ia, ib⟩:=ii.form; (first | (replace D:=D.step be) | (replace D:=(D.boxMI hmd false none 0 0 0 false none 0 0 0).step be) | (replace D:=(D.boxI false none 0 0 0 false none 0 0 0).step be)); have hz:=be.size; (try simp at hz); replace D:=(D.n ib).n ia; (try (have x00:=D.lq.b0.c60; have y00:=D.lq.b0.fr 0; have x01:=D.lq.b0.c61; have y01:=D.lq.b0.fr 1; have x02:=D.lq.b0.c62; have y02:=D.lq.b0.fr 2; have x03:=D.lq.b0.c63; have y03:=D.lq.b0.fr 3; have x04:=D.lq.b0.c64; have y04:=D.lq.b0.fr 4; have x05:=D.lq.b0.c65; have y05:=D.lq.b0.fr 5)); (try obtain ⟨na, nb, nc, nd, nl⟩:=D.n0)))
  all_goals
   go_wp2_with fail
   go_meet
   refine ⟨rfl, ?_⟩
   first
   | ((with_reducible refine made1i_a D ?_ ?_) <;> (repeat (first | (with_reducible exact List.mem_cons_self) | apply List.mem_cons_of_mem)))
   | ((with_reducible refine made1i_b D ?_ ?_) <;> (repeat (first | (with_reducible exact List.mem_cons_self) | apply List.mem_cons_of_mem)))
 case rest =>
  obtain ⟨rfl, gm, A8, c8, B8, d8, rfl, hg9, bw, hb9, q1, q2⟩:=hcut
  have L:=(((LL.out.step bw).n q2).n q1).b hb9
  have hl_gm:=hg9
  clear D D0 hmd LL hb9 q1 q2 bw hg9 HVW Q0 Q1 Q2 Q3 Q4 Q5 Q6 Q7 Q8 hc0 hc1
  generalize wc = wd9 at *
  have c00:=L.b0.c60
  have c01:=L.b0.c61
  have c02:=L.b0.c62
  have c03:=L.b0.c63
  have c04:=L.b0.c64
  have c05:=L.b0.c65
  have c30:=L.tl.tl.tl.b0.c60
  have c31:=L.tl.tl.tl.b0.c61
  have c32:=L.tl.tl.tl.b0.c62
  have c33:=L.tl.tl.tl.b0.c63
  have c34:=L.tl.tl.tl.b0.c64
  have c35:=L.tl.tl.tl.b0.c65
  (try go_wp2_with fail)
  refine (G13.out _ _ _ (isI_n (m:=m) (e:=e) (n:=m) (f:=e) (s:=.slice A1 (zl m) c1) (t:=.slice B1 (zl m) d1) (L.getN (by simp)) (L.getN (by simp))) (isI_n (m:=Mt) (e:=Et) (n:=Mv) (f:=Ev) (s:=.slice A8 (zl Mt) c8) (t:=.slice B8 (zl Mv) d8) (L.getN (by simp)) (L.getN (by simp))) L.below).mono ?_
  rintro e w11 ⟨v9, rfl, ii, be⟩
  clear c00 c01 c02 c03 c04 c05 c30 c31 c32 c33 c34 c35
  obtain ⟨A9, c9, B9, d9, rfl, ia, ib⟩:=ii.form
  replace L:=((L.step be).n ib).n ia
  clear be ii ia ib
  have hl9:=L.b0.lt
  replace L:=L.varI w11.heap.size rfl (ng Mr) A9 (zl Mr) c9 Er (ng Ms) B9 (zl Ms) d9 Es
  have c00:=L.b0.c60
  have c01:=L.b0.c61
  have c02:=L.b0.c62
  have c03:=L.b0.c63
  have c04:=L.b0.c64
  have c05:=L.b0.c65
  go_wp2_with fail
  clear c00 c01 c02 c03 c04 c05
  obtain ⟨gr, hgr⟩ : ∃ g9, w11.heap.size = g9:=⟨_, rfl⟩
  rw [hgr] at L hl9 ⊢
  clear hgr
  have hl_gr:=hl9
  clear hl9
  have L9:=L.subx (ns':=[(.slice A6 (zl Mn) c6, Mn.natAbs), (.slice A9 (zl Mr) c9, Mr.natAbs), (.slice B9 (zl Ms) d9, Ms.natAbs)]) (bs':=[(w.heap.size + 1, 28, #[.bool false, .slice none 0 0, .int .i64 0, .bool false, .slice none 0 0, .int .i64 0]), (gr, 28, #[.bool (ng Mr), .slice A9 (zl Mr) c9, .int .i64 Er, .bool (ng Ms), .slice B9 (zl Ms) d9, .int .i64 Es]), (gn, 26, #[.bool (ng Mn), .slice A6 (zl Mn) c6, .int .i64 En])]) (by simp) (by simp)
  clear L
  have L:=L9
  clear L9
  have nr1 : w.heap.size + 1 ≠ gr:=by omega
  have nr2 : w.heap.size + 1 ≠ gn:=by omega
  replace L:=L.drew
  obtain ⟨hR, ⟨hMr, hEr⟩, hMs, hEs⟩:=HR.out
  have c00:=L.b0.c60
  have f00:=L.b0.fr 0
  have c01:=L.b0.c61
  have f01:=L.b0.fr 1
  have c02:=L.b0.c62
  have f02:=L.b0.fr 2
  have c03:=L.b0.c63
  have f03:=L.b0.fr 3
  have c04:=L.b0.c64
  have f04:=L.b0.fr 4
  have c05:=L.b0.c65
  have f05:=L.b0.fr 5
  have c10:=L.tl.b0.c60
  have c11:=L.tl.b0.c61
  have c12:=L.tl.b0.c62
  have c13:=L.tl.b0.c63
  have c14:=L.tl.b0.c64
  have c15:=L.tl.b0.c65
  have c20:=L.tl.tl.b0.c30
  have c21:=L.tl.tl.b0.c31
  have c22:=L.tl.tl.b0.c32
  have HD9 : ∀ p ∈ ([(gr, 28, #[.bool (ng Mr), .slice A9 (zl Mr) c9, .int .i64 Er, .bool (ng Ms), .slice B9 (zl Ms) d9, .int .i64 Es]), (gn, 26, #[.bool (ng Mn), .slice A6 (zl Mn) c6, .int .i64 En])] : List (Nat × TypeId × Array Value)), p.1 ≠ w.heap.size + 1:=by simp [nr1, nr2, Ne.symm nr1, Ne.symm nr2]
  have HL9 : w.heap.size ≤ w.heap.size + 1:=Nat.le_succ _
  go_region_held3 (fun w' => w'.cell? ⟨gr, 0, none⟩ = some (.bool (ng Mr)) ∧ w'.cell? ⟨gr, 1, none⟩ = some (.slice A9 (zl Mr) c9) ∧ w'.cell? ⟨gr, 2, none⟩ = some (.int .i64 Er) ∧ w'.cell? ⟨gr, 3, none⟩ = some (.bool (ng Ms)) ∧ w'.cell? ⟨gr, 4, none⟩ = some (.slice B9 (zl Ms) d9) ∧ w'.cell? ⟨gr, 5, none⟩ = some (.int .i64 Es) ∧ w'.cell? ⟨gn, 0, none⟩ = some (.bool (ng Mn)) ∧ w'.cell? ⟨gn, 1, none⟩ = some (.slice A6 (zl Mn) c6) ∧ w'.cell? ⟨gn, 2, none⟩ = some (.int .i64 En)) (first | (with_reducible exact ⟨L.tl.b0.c60, L.tl.b0.c61, L.tl.b0.c62, L.tl.b0.c63, L.tl.b0.c64, L.tl.b0.c65, L.tl.tl.b0.c30, L.tl.tl.b0.c31, L.tl.tl.b0.c32⟩) | (have LP:=L.putI HL9 HD9 (ng Mr) A9 (zl Mr) c9 Er (ng Ms) B9 (zl Ms) d9 Es; unfold put6 at LP; with_reducible exact ⟨LP.tl.b0.c60, LP.tl.b0.c61, LP.tl.b0.c62, LP.tl.b0.c63, LP.tl.b0.c64, LP.tl.b0.c65, LP.tl.tl.b0.c30, LP.tl.tl.b0.c31, LP.tl.tl.b0.c32⟩)) (first | (go_at_call 92; (with_reducible refine (G12.out _ _ ?_).mono ?_); (· (first | (with_reducible refine isD_n (L.getN ?_); (repeat (first | (with_reducible exact List.mem_cons_self) | apply List.mem_cons_of_mem))) | (have LP:=L.putI HL9 HD9 (ng Mr) A9 (zl Mr) c9 Er (ng Ms) B9 (zl Ms) d9 Es; unfold put6 at LP; with_reducible refine isD_n (LP.getN ?_); (repeat (first | (with_reducible exact List.mem_cons_self) | apply List.mem_cons_of_mem))))); rintro e wh ⟨rfl, be⟩; (first | (with_reducible replace L:=L.step be) | (have LP:=L.putI HL9 HD9 (ng Mr) A9 (zl Mr) c9 Er (ng Ms) B9 (zl Ms) d9 Es; unfold put6 at LP; with_reducible replace L:=LP.step be; clear LP)); clear be; have x00:=L.b0.c60; have y00:=L.b0.fr 0; have x01:=L.b0.c61; have y01:=L.b0.fr 1; have x02:=L.b0.c62; have y02:=L.b0.fr 2; have x03:=L.b0.c63; have y03:=L.b0.fr 3; have x04:=L.b0.c64; have y04:=L.b0.fr 4; have x05:=L.b0.c65; have y05:=L.b0.fr 5))
  subst hMr hEr hMs hEs
  all_goals (try go_wp2_with fail)
  all_goals (first | (have LP:=L.putI (by omega) (by simp [nr1, nr2, Ne.symm nr1, Ne.symm nr2]) (ng (mkM R1 (-(k : Int)))) A9 (zl (mkM R1 (-(k : Int)))) c9 (mkE R1 (-(k : Int))) (ng (mkM R2 (-(k : Int)))) B9 (zl (mkM R2 (-(k : Int)))) d9 (mkE R2 (-(k : Int))); have k0:=LP.b0.c60; have k1:=LP.b0.c61; have k2:=LP.b0.c62; have k3:=LP.b0.c63; have k4:=LP.b0.c64; have k5:=LP.b0.c65; unfold put6 at k0 k1 k2 k3 k4 k5; exact bodyPost_ret (v:=.tuple #[.int .i64 N, .agg #[.bool (ng (mkM R1 (-(k : Int)))), .slice A9 (zl (mkM R1 (-(k : Int)))) c9, .int .i64 (mkE R1 (-(k : Int))), .bool (ng (mkM R2 (-(k : Int)))), .slice B9 (zl (mkM R2 (-(k : Int)))) d9, .int .i64 (mkE R2 (-(k : Int)))], .int .i64 0]) (by simp [results, Tryz.results35, go_sem, k0, k1, k2, k3, k4, k5]) rfl ⟨N, R1, R2, hR, _, rfl, isI_n (LP.getN (by simp)) (LP.getN (by simp)), LP.below⟩) | (have k0:=L.b0.c60; have k1:=L.b0.c61; have k2:=L.b0.c62; have k3:=L.b0.c63; have k4:=L.b0.c64; have k5:=L.b0.c65; exact bodyPost_ret (v:=.tuple #[.int .i64 N, .agg #[.bool (ng (mkM R1 (-(k : Int)))), .slice A9 (zl (mkM R1 (-(k : Int)))) c9, .int .i64 (mkE R1 (-(k : Int))), .bool (ng (mkM R2 (-(k : Int)))), .slice B9 (zl (mkM R2 (-(k : Int)))) d9, .int .i64 (mkE R2 (-(k : Int)))], .int .i64 0]) (by simp [results, Tryz.results35, go_sem, k0, k1, k2, k3, k4, k5]) rfl ⟨N, R1, R2, hR, _, rfl, isI_n (L.getN (by simp)) (L.getN (by simp)), L.below⟩))
structure ArgD (j : Nat) (m e : Int) : Prop where
 vm : Dv m e
 zm : zl m ≤ 3
 em : m = 0 ∨ (-60 - 20 * (j : Int) ≤ e ∧ e ≤ 156 - 20 * (j : Int))
theorem ArgD.small {j : Nat} {m e : Int} (h : ArgD j m e) (hj : j ≤ 40) : -1000 ≤ e ∧ e ≤ 1000:=by
 rcases h.em with h1 | h1
 ·have:=dv_zero h.vm h1
  omega
 ·omega
theorem ArgD.more {j : Nat} {m e : Int} (h : ArgD j m e) (ht : 9 < topZ m e) : j ≤ 12:=by
 have z1:=blen_le_len m.natAbs
 have e1 : zl m = len m.natAbs:=rfl
 have h1:=h.zm
 unfold topZ at ht
 split at ht
 ·omega
 ·rcases h.em with h3 | h3
  ·contradiction
  ·omega
theorem ArgD.step {j : Nat} {m e : Int} (h : ArgD j m e) (hj : j ≤ 40) : mkR m (e + -20) = 0 ∧ ArgD (j + 1) (mkM m (e + -20)) (mkE m (e + -20)):=by
 have s1:=h.small hj
 obtain ⟨a0, a1, a2, a3, a4⟩:=dv_shift (s := -20) h.vm h.zm (by omega) (by omega)
 refine ⟨a0, a3, by rw [a1]; exact h.zm, ?_⟩
 rw [a1]
 rcases a2 with a2 | a2
 ·exact Or.inl a2
 ·rw [a2]
  rcases h.em with h1 | h1
  ·exact Or.inl h1
  ·exact Or.inr (by omega)
theorem ArgD.in512 {j : Nat} {m e : Int} (ht : topZ m e ≤ 9) : -512 ≤ dq m e ∧ dq m e ≤ 512:=by
 have h:=(top_iff (by omega)).1 ht
 have v9 : dq 1 9 = 512:=by decide +kernel
 rw [v9] at h
 exact ⟨Rat.le_of_lt h.1, Rat.le_of_lt h.2⟩
theorem ArgD.smB {j : Nat} {m e : Int} (h : ArgD j m e) (hj : j ≤ 40) (ht : topZ m e ≤ 9) : smallB m e m e = true:=by
 have s1:=h.small hj
 have p8 : permB 8192 = true:=by decide
 unfold smallB onB
 rw [p8, decide_eq_true (show dcm m e m e ≤ 0 by rw [dcm_self]; omega), decide_eq_true (show topZ m e ≤ 2048 by omega), decide_eq_true (show -8192 ≤ e by omega)]
 simp
theorem SpC.times {a b n : Int} {v : Nat} {q : Rat} (h : SpC a b v q) (hn : 0 ≤ n) : SpC (a * n) (b * n) v (q * (n : Rat)):=by
 obtain ⟨h1, h2⟩:=h
 have hp : (0 : Rat) ≤ (n : Rat):=by exact_mod_cast hn
 have e : ∀ X : Int, dq (X * n) (-(v : Int)) = dq X (-(v : Int)) * (n : Rat):=fun X => by
  rw [dq_scale (X * n), dq_scale X, Rat.intCast_mul]
  grind
 refine ⟨?_, ?_⟩
 ·rw [e]; exact Rat.mul_le_mul_of_nonneg_right h1 hp
 ·rw [e]; exact Rat.mul_le_mul_of_nonneg_right h2 hp
theorem SpC.out9 {a b : Int} {v k j : Nat} {x : Rat} (h : SpC a b v x) (hj : v = k + j) : dq (a / 2 ^ j) (-(k : Int)) ≤ x ∧ x ≤ dq (cdv b (2 ^ j)) (-(k : Int)):=by
 have hp:=pow2_pos j
 have e : dq 1 (-(k : Int)) = dq 1 (-(v : Int)) * (((2 : Int) ^ j : Int) : Rat):=by
  have h1:=two_cast v
  have h2:=two_cast k
  rw [hj, Int.pow_add, Rat.intCast_mul] at h1
  rw [← hj] at h1
  have h3:=dq_pos (-(k : Int))
  grind
 have e2 : ∀ X : Int, dq X (-(k : Int)) = dq X (-(v : Int)) * (((2 : Int) ^ j : Int) : Rat):=fun X => by
  rw [dq_scale X, dq_scale X (-(v : Int)), e]; grind
 refine ⟨Rat.le_trans ?_ h.1, Rat.le_trans h.2 ?_⟩
 ·rw [e2]; exact fdiv_le hp _
 ·rw [e2]; exact le_cdiv hp _
theorem lnQ_sp {v : Nat} (hv : v < 180) : SpC (lnL v) (lnH v) v lnQ:=lns hv
theorem red_sp1 {v : Nat} (hv : v < 180) (x : Rat) {N : Int} (hN : 0 ≤ N) : SpC (cutQ x (v : Int) + -(lnH v * N)) (-(cutQ (-x) (v : Int)) + -(lnL v * N)) v (x - (N : Rat) * lnQ):=by
 have h:=(SpC.at x v).add ((lnQ_sp hv).times hN).neg
 rw [Rat.sub_eq_add_neg, Rat.mul_comm (N : Rat)]
 exact h
theorem red_sp2 {v : Nat} (hv : v < 180) (x : Rat) {N M : Int} (hN : 0 ≤ M) (e : -N = M) : SpC (cutQ x (v : Int) + lnL v * M) (-(cutQ (-x) (v : Int)) + lnH v * M) v (x - (N : Rat) * lnQ):=by
 have h:=(SpC.at x v).add ((lnQ_sp hv).times hN)
 have e2 : (M : Rat) = -(N : Rat):=by rw [← e, Rat.intCast_neg]
 rw [e2] at h
 rw [Rat.sub_eq_add_neg, Rat.mul_comm (N : Rat), ← Rat.mul_neg]
 exact h
theorem ln_size9 {v : Nat} (hv : v ≤ 300) : zl (lnL v) ≤ 25 ∧ zl (lnH v) ≤ 25:=by
 obtain ⟨h1, h2⟩:=lnR_abs v 0 (2 ^ v / 3) (cdv (2 ^ v) 3) 0 0 (at_first (n:=3) (by omega) v)
 have x1:=h1.zl
 have x2:=h2.zl
 have x3:=zl_sub (lnR v 0 (2 ^ v / 3) (cdv (2 ^ v) 3) 0 0).1 2
 have x4:=zl_add (lnR v 0 (2 ^ v / 3) (cdv (2 ^ v) 3) 0 0).2 2
 have x5 : zl 2 ≤ 1:=len_le1 (by omega)
 have x6:=zl_mul ((lnR v 0 (2 ^ v / 3) (cdv (2 ^ v) 3) 0 0).1 - 2) 2
 have x7:=zl_mul ((lnR v 0 (2 ^ v / 3) (cdv (2 ^ v) 3) 0 0).2 + 2) 2
 unfold lnL lnH lnS
 omega
theorem red_zl {m e : Int} {v : Nat} (zm : zl m ≤ 3) (he : -1000 ≤ e ∧ e ≤ 1000) (hv : v ≤ 300) {N : Int} (hN : -750 ≤ N ∧ N ≤ 750) :
  (zl (cutQ (dq m e) (v : Int)) ≤ 50 ∧ zl (-(cutQ (-(dq m e)) (v : Int))) ≤ 50) ∧ (zl (lnL v) ≤ 25 ∧ zl (lnH v) ≤ 25) ∧ (zl (lnL v * N) ≤ 26 ∧ zl (lnH v * N) ≤ 26):=by
 have z1:=zl_cutD m e (v : Int)
 have z2:=zl_cutD (-m) e (v : Int)
 rw [dq_neg] at z2
 have z3:=zl_neg m
 have z4:=zl_neg (cutQ (-(dq m e)) (v : Int))
 obtain ⟨z5, z6⟩:=ln_size9 (v:=v) (by omega)
 have z7 : zl N ≤ 1:=len_le1 (by omega)
 have z8:=zl_mul (lnL v) N
 have z9:=zl_mul (lnH v) N
 refine ⟨⟨by omega, by omega⟩, ⟨z5, z6⟩, by omega, by omega⟩
theorem npZ {T : Int} {j : Nat} (h : zl T ≤ 60) (hj : j ≤ 5000) :
  mkR T (-(j : Int)) = 0 ∧ zl (mkM T (-(j : Int))) ≤ 60 ∧ (-(j : Int) ≤ mkE T (-(j : Int)) ∧ mkE T (-(j : Int)) ≤ 3000) ∧ dq (mkM T (-(j : Int))) (mkE T (-(j : Int))) = dq T (-(j : Int)):=by
 have hr : mkR T (-(j : Int)) = 0:=mk_fits2 (by omega) (by omega) (by omega)
 have z1:=zl_mk T (-(j : Int))
 have z2:=mkE_at hr (k:=60) h
 exact ⟨hr, by omega, by omega, dq_mk hr⟩
theorem n1001 : mkR 1001 0 = 0 ∧ zl (mkM 1001 0) ≤ 1 ∧ (0 ≤ mkE 1001 0 ∧ mkE 1001 0 ≤ 32) ∧ Dv (mkM 1001 0) (mkE 1001 0) ∧ dq (mkM 1001 0) (mkE 1001 0) = 1001:=by
 have h : AbP 1001 10:=by unfold AbP; decide
 obtain ⟨a1, _, a3, _, _, a6⟩:=nf h (by omega)
 have z2:=mkE_at a1 h.zl
 exact ⟨a1, Nat.le_trans (zl_mk _ _) (Nat.le_trans h.zl (by omega)), by omega, mk_ok a1, by rw [a6]; rfl⟩
theorem s1001 : smallB (mkM 1001 0) (mkE 1001 0) (mkM 1001 0) (mkE 1001 0) = true:=by
 obtain ⟨a1, a2, a3, a4, a5⟩:=n1001
 have t : topZ (mkM 1001 0) (mkE 1001 0) ≤ 11:=by
  refine (top_iff (by omega)).2 ?_
  rw [a5]
  exact ⟨by decide +kernel, by decide +kernel⟩
 have p8 : permB 8192 = true:=by decide
 unfold smallB onB
 rw [p8, decide_eq_true (show dcm (mkM 1001 0) (mkE 1001 0) (mkM 1001 0) (mkE 1001 0) ≤ 0 by rw [dcm_self]; omega), decide_eq_true (show topZ (mkM 1001 0) (mkE 1001 0) ≤ 2048 by omega), decide_eq_true (show -8192 ≤ mkE 1001 0 by omega)]
 simp
theorem far1001 : ¬ (-1000 ≤ dq (mkM 1001 0) (mkE 1001 0) ∧ dq (mkM 1001 0) (mkE 1001 0) ≤ 1000):=by
 rw [n1001.2.2.2.2]
 decide +kernel

theorem Lq.sub {w0 w : World} {ns : List (Value × Nat)} {zs : List (Value × Int)} {qs : List (Value × Int × Nat)} {bs : List (Nat × TypeId × Array Value)} (h : Lq w0 w ns zs qs bs) {ns' : List (Value × Nat)} {bs' : List (Nat × TypeId × Array Value)} (h1 : ∀ p ∈ ns', p ∈ ns) (h2 : ∀ b ∈ bs', b ∈ bs) : Lq w0 w ns' [] [] bs':=
 ⟨h.below, fun x hx => h.ns x (h1 x hx), fun _ x => (by cases x), fun _ x => (by cases x), fun x hx => h.bs x (h2 x hx)⟩

set_option maxHeartbeats 16000000 in
theorem s13ln_any (v : Nat) (w : World) (hv : v ≤ 10000) :
  Calls Tryz.prog 45 #[.int .i64 (v : Int)] w (RetSp w (lnL v) (lnH v)):=by
 have HV:=Lib.hid hv
 have g1:=fun W => s13of_any 1 v W (by omega) (by omega) (by omega)
 have g0:=fun W => s13of_any 0 v W (by omega) (by omega) (by omega)
 rw [Int.one_mul] at g1
 rw [Int.zero_mul] at g0
 have t0:=tm_one v
 have q0:=at_first (n:=3) (by omega) v
 have z0:=t0.abs.1.zl
 have g2:=fun x W h => s13over_any (2 ^ v) (2 ^ v) 3 x W h (by omega) (by omega) (Int.le_refl _) (by omega) (by omega)
 have HXY:=Lib.hid (show lnL v = ((lnR v 0 (2 ^ v / 3) (cdv (2 ^ v) 3) 0 0).1 - 2) * 2 ∧ lnH v = ((lnR v 0 (2 ^ v / 3) (cdv (2 ^ v) 3) 0 0).2 + 2) * 2 from ⟨rfl, rfl⟩)
 generalize lnL v = X at *
 generalize lnH v = Y at *
 generalize (2 : Int) ^ v = P at *
 obtain ⟨a, ha⟩ : ∃ z, P / 3 = z:=⟨_, rfl⟩
 obtain ⟨b, hb⟩ : ∃ z, cdv P 3 = z:=⟨_, rfl⟩
 rw [ha, hb] at g2 q0 HXY
 obtain ⟨R, hR⟩ : ∃ z, lnR v 0 a b 0 0 = z:=⟨_, rfl⟩
 rw [hR] at HXY
 have HR:=Lib.hid (And.intro q0 hR)
 have G0:=Lib.hid g0
 have G1:=Lib.hid g1
 have G2:=Lib.hid g2
 clear g0 g1 g2 hR q0 t0 z0 ha hb
 go_enter Tryz.func45, Tryz.ntmps45
 have L:=((Lq.mk0 w).varS (w.heap.size) (by simp) false none 0 0 false none 0 0)
 (try go_wp2_with fail)
 obtain ⟨V, hV⟩ : ∃ V, w.alloc (.cells #[.bool false, .slice none 0 0, .bool false, .slice none 0 0] 71) = V:=⟨_, rfl⟩
 rw [hV] at L ⊢
 clear hV
 have hwV:=L.b0.lt
 have LL:=Lib.hid L
 clear L
 have L:=Lq.mk0 V
 refine (G1.out _).mono ?_
 rintro e w1 ⟨vv, rfl, iq, be⟩
 obtain ⟨A5, c5, B5, d5, rfl, ia, ib⟩:=iq.form
 replace L:=((L.step be).n ib).n ia
 clear be iq ia ib
 go_wp2_with fail
 refine (G2.out _ _ (isS_n (a:=P) (b:=P) (s:=.slice A5 (zl P) c5) (t:=.slice B5 (zl P) d5) (L.getN (by simp)) (L.getN (by simp)))).mono ?_
 rintro e w2 ⟨vv, rfl, iq, be⟩
 obtain ⟨A1, c1, B1, d1, rfl, ia, ib⟩:=iq.form
 replace L:=((L.step be).n ib).n ia
 clear be iq ia ib
 have hVt : V.heap.size ≤ w2.heap.size:=L.below.size
 replace L:=L.varS w2.heap.size rfl (ng a) A1 (zl a) c1 (ng b) B1 (zl b) d1
 have c00:=L.b0.c40
 have c01:=L.b0.c41
 have c02:=L.b0.c42
 have c03:=L.b0.c43
 go_wp2_with fail
 clear c00 c01 c02 c03
 obtain ⟨gt, hgt⟩ : ∃ g9, w2.heap.size = g9:=⟨_, rfl⟩
 rw [hgt] at L hVt ⊢
 clear hgt
 refine (G0.out _).mono ?_
 rintro e w3 ⟨vv, rfl, iq, be⟩
 obtain ⟨A2, c2, B2, d2, rfl, ia, ib⟩:=iq.form
 replace L:=((L.step be).n ib).n ia
 clear be iq ia ib
 have hlt1:=L.b0.lt
 replace L:=L.varS w3.heap.size rfl (ng 0) A2 (zl 0) c2 (ng 0) B2 (zl 0) d2
 have c00:=L.b0.c40
 have c01:=L.b0.c41
 have c02:=L.b0.c42
 have c03:=L.b0.c43
 have c10:=L.tl.b0.c40
 have c11:=L.tl.b0.c41
 have c12:=L.tl.b0.c42
 have c13:=L.tl.b0.c43
 go_wp2_with fail
 clear c00 c01 c02 c03 c10 c11 c12 c13
 obtain ⟨gs, hgs⟩ : ∃ g9, w3.heap.size = g9:=⟨_, rfl⟩
 rw [hgs] at L hlt1 ⊢
 clear hgs
 replace L:=L.swap
 clear G0 G1 G2
 go_loopw [5] (fun i wr => ∃ (f k : Nat) (a b s u : Int) (A1 B1 A2 B2 : Option Addr) (c1 d1 c2 d2 : Nat), i = .int .i64 (k : Int) ∧ Lq V wr [(.slice A1 (zl a) c1, a.natAbs), (.slice B1 (zl b) d1, b.natAbs), (.slice A2 (zl s) c2, s.natAbs), (.slice B2 (zl u) d2, u.natAbs)] [] [] [(gt, 71, #[.bool (ng a), .slice A1 (zl a) c1, .bool (ng b), .slice B1 (zl b) d1]), (gs, 71, #[.bool (ng s), .slice A2 (zl s) c2, .bool (ng u), .slice B2 (zl u) d2])] ∧ Hid (SeI v f k a b s u ∧ lnR f k a b s u = R)) (fun i _ => v + 4 - (intOf i).toNat)
 case atStart => exact ⟨v, 0, a, b, 0, 0, A1, B1, A2, B2, c1, d1, c2, d2, by go_num, L.sub (by simp) (by simp), HR⟩
 case round =>
  clear L HR
  obtain ⟨f, k, a, b, s, u, A1, B1, A2, B2, c1, d1, c2, d2, rfl, L, HR⟩:=hrel
  obtain ⟨sa, sb, ss, su, hab, hk⟩:=HR.out.1.sizes HV.out
  have hfk:=HR.out.1.2.1
  have tn0:=fun x W h => s13tiny_any a b x W h (by omega) (by omega)
  have hv:=HV.out
  have hl1:=L.b0.lt
  have hl2:=L.tl.b0.lt
  cases ht : tnB a b
  ·rw [ht] at tn0
   have TN:=Lib.hid tn0
   obtain ⟨g, rfl, t2, n1, n2⟩:=ln_step HR.out.1 ht
   have x3:=t2.abs.1.zl
   have x4:=t2.abs.2.zl
   have hE:=HR.out.2
   rw [n2] at hE
   have o1:=fun x W h => s13over_any a b (2 * (k : Int) + 1) x W h (by omega) (by omega) hab (by omega) (by omega)
   have o2:=fun x W h => s13over_any a b 9 x W h (by omega) (by omega) hab (by omega) (by omega)
   have o5:=fun x y W h j => s13add_any s u (a / (2 * (k : Int) + 1)) (cdv b (2 * (k : Int) + 1)) x y W h j (by omega) (by omega) (by omega) (by omega)
   have hkv : k ≤ v + 2:=by omega
   obtain ⟨q, hq⟩ : ∃ q : Int, 2 * (k : Int) + 1 = q:=⟨_, rfl⟩
   have w1 : IntKind.i64.wrap (2 * (k : Int)) = 2 * (k : Int):=by rw [IntKind.wrap_i64]; omega
   have w2 : IntKind.i64.wrap (2 * (k : Int) + 1) = q:=by rw [IntKind.wrap_i64]; omega
   have w3 : IntKind.i64.wrap ((k : Int) + 1) = (k : Int) + 1:=by rw [IntKind.wrap_i64]; omega
   rw [hq] at o1 o5 n1 hE
   obtain ⟨p, hp⟩ : ∃ z, a / q = z:=⟨_, rfl⟩
   rw [hp] at o1 o5 n1 hE
   obtain ⟨r, hr⟩ : ∃ z, cdv b q = z:=⟨_, rfl⟩
   rw [hr] at o1 o5 n1 hE
   obtain ⟨a4, ha4⟩ : ∃ z, a / 9 = z:=⟨_, rfl⟩
   rw [ha4] at o2 n1 hE
   obtain ⟨b4, hb4⟩ : ∃ z, cdv b 9 = z:=⟨_, rfl⟩
   rw [hb4] at o2 n1 hE
   obtain ⟨s4, hs4⟩ : ∃ z, s + p = z:=⟨_, rfl⟩
   rw [hs4] at o5 n1 hE
   obtain ⟨u4, hu4⟩ : ∃ z, u + r = z:=⟨_, rfl⟩
   rw [hu4] at o5 n1 hE
   have O1:=Lib.hid o1
   have O2:=Lib.hid o2
   have O5:=Lib.hid o5
   have HR:=Lib.hid (And.intro n1 hE)
   clear o1 o2 o5 tn0 hq hp hr ha4 hb4 hs4 hu4 t2 x3 x4 sa sb ss su hab n1 n2 hE ht hfk
   have cel00:=L.b0.c40
   have cel01:=L.b0.c41
   have cel02:=L.b0.c42
   have cel03:=L.b0.c43
   go_wp2_with fail
   refine (TN.out _ _ (isS_n (a:=a) (b:=b) (s:=.slice A1 (zl a) c1) (t:=.slice B1 (zl b) d1) (L.getN (by simp)) (L.getN (by simp)))).mono ?_
   rintro e w11 ⟨rfl, be⟩
   clear cel00 cel01 cel02 cel03
   replace L:=L.step be
   clear be
   have hVs : V.heap.size ≤ gs:=by omega
   replace L:=L.drew
   (try go_wp2_with fail)
   have LD:=L.swap
   clear L
   have cel00:=LD.b0.c40
   have f00:=LD.b0.fr 0
   have cel01:=LD.b0.c41
   have f01:=LD.b0.fr 1
   have cel02:=LD.b0.c42
   have f02:=LD.b0.fr 2
   have cel03:=LD.b0.c43
   have f03:=LD.b0.fr 3
   have cel10:=LD.tl.b0.c40
   have cel11:=LD.tl.b0.c41
   have cel12:=LD.tl.b0.c42
   have cel13:=LD.tl.b0.c43
   go_cut [22] from 16 to 22 (fun s9 wx => ∃ A6 c6 B6 d6, Lq V wx [(.slice A6 (zl s4) c6, s4.natAbs), (.slice B6 (zl u4) d6, u4.natAbs), (.slice A1 (zl a) c1, a.natAbs), (.slice B1 (zl b) d1, b.natAbs)] [] [] [(gs, 71, #[.bool (ng s4), .slice A6 (zl s4) c6, .bool (ng u4), .slice B6 (zl u4) d6]), (gt, 71, #[.bool (ng a), .slice A1 (zl a) c1, .bool (ng b), .slice B1 (zl b) d1])])
   case first =>
    go_region_with (first | (go_at_call 67; (with_reducible refine (O1.out _ _ ?_).mono ?_); (· (refine isS_n (LD.getN ?_) (LD.getN ?_) <;> (repeat (first | (with_reducible exact List.mem_cons_self) | apply List.mem_cons_of_mem)))); rintro e9 wh ⟨vh, rfl, iq, be⟩; obtain ⟨A5, c5, B5, d5, rfl, ia, ib⟩:=iq.form; replace LD:=((LD.step be).n ib).n ia; clear be iq ia ib; (try (have r0:=LD.b0.c40; have s0:=LD.b0.fr 0; have r1:=LD.b0.c41; have s1:=LD.b0.fr 1; have r2:=LD.b0.c42; have s2:=LD.b0.fr 2; have r3:=LD.b0.c43; have s3:=LD.b0.fr 3))) | (go_at_call 46; (with_reducible refine (O5.out _ _ _ ?_ ?_).mono ?_); (· (refine isS_n (LD.getN ?_) (LD.getN ?_) <;> (repeat (first | (with_reducible exact List.mem_cons_self) | apply List.mem_cons_of_mem)))); (· (refine isS_n (LD.getN ?_) (LD.getN ?_) <;> (repeat (first | (with_reducible exact List.mem_cons_self) | apply List.mem_cons_of_mem)))); rintro e9 wh ⟨vh, rfl, iq, be⟩; obtain ⟨A6, c6, B6, d6, rfl, ia, ib⟩:=iq.form; replace LD:=((LD.step be).n ib).n ia; clear be iq ia ib; (try (have r0:=LD.b0.c40; have s0:=LD.b0.fr 0; have r1:=LD.b0.c41; have s1:=LD.b0.fr 1; have r2:=LD.b0.c42; have s2:=LD.b0.fr 2; have r3:=LD.b0.c43; have s3:=LD.b0.fr 3))))
    all_goals
     have LP:=LD.putS (by omega) (by first | (simp; done) | (simp; omega)) (ng s4) A6 (zl s4) c6 (ng u4) B6 (zl u4) d6
     unfold put4 at LP
     go_wp2_with fail
     go_meet
     exact ⟨A6, c6, B6, d6, LP.sub (by simp) (by simp)⟩
   case rest =>
    obtain ⟨A6, c6, B6, d6, L⟩:=hcut
    generalize wc = wd at *
    clear LD O1 O5
    have cel10:=L.tl.b0.c40
    have cel11:=L.tl.b0.c41
    have cel12:=L.tl.b0.c42
    have cel13:=L.tl.b0.c43
    (try go_wp2_with fail)
    refine (O2.out _ _ (isS_n (a:=a) (b:=b) (s:=.slice A1 (zl a) c1) (t:=.slice B1 (zl b) d1) (L.getN (by simp)) (L.getN (by simp)))).mono ?_
    rintro e w41 ⟨vv, rfl, iq, be⟩
    clear cel10 cel11 cel12 cel13
    obtain ⟨A8, c8, B8, d8, rfl, ia, ib⟩:=iq.form
    replace L:=((L.step be).n ib).n ia
    clear be iq ia ib
    have cel10:=L.tl.b0.c40
    have f10:=L.tl.b0.fr 0
    have cel11:=L.tl.b0.c41
    have f11:=L.tl.b0.fr 1
    have cel12:=L.tl.b0.c42
    have f12:=L.tl.b0.fr 2
    have cel13:=L.tl.b0.c43
    have f13:=L.tl.b0.fr 3
    replace L:=L.swap.putS (by omega) (by first | (simp; done) | (simp; omega)) (ng a4) A8 (zl a4) c8 (ng b4) B8 (zl b4) d8
    unfold put4 at L
    go_wp2_with fail
    go_roundw
    case rel => exact ⟨g, k + 1, a4, b4, s4, u4, A8, B8, A6, B6, c8, d8, c6, d6, by go_num, L.sub (by simp) (by simp), HR⟩
    case measure => simp [intOf]; omega
  ·rw [ht] at tn0
   have TN:=Lib.hid tn0
   have hE:=HR.out.2
   rw [lnR_end ht] at hE
   obtain ⟨e1, e2⟩:=HXY.out
   rw [← hE] at e1 e2
   have o1:=fun x W h => s13wide_any s u 2 x W h (by omega) (by omega) (by omega) (by omega)
   have m1:=zl_sub s 2
   have m2:=zl_add u 2
   have m3 : zl 2 ≤ 1:=len_le1 (by omega)
   have o2:=fun x W h => s13times_any (s - 2) (u + 2) 2 x W h (by omega) (by omega) (by omega) (by omega)
   rw [show (s - 2) * 2 = X from e1.symm, show (u + 2) * 2 = Y from e2.symm] at o2
   obtain ⟨s4, hs4⟩ : ∃ z, s - 2 = z:=⟨_, rfl⟩
   obtain ⟨u4, hu4⟩ : ∃ z, u + 2 = z:=⟨_, rfl⟩
   rw [hs4, hu4] at o1 o2
   have O1:=Lib.hid o1
   have O2:=Lib.hid o2
   clear o1 o2 e1 e2 hE tn0 HXY HR sa sb ss su hab ht m1 m2 m3 hs4 hu4
   have cel00:=L.b0.c40
   have cel01:=L.b0.c41
   have cel02:=L.b0.c42
   have cel03:=L.b0.c43
   go_wp2_with fail
   refine (TN.out _ _ (isS_n (a:=a) (b:=b) (s:=.slice A1 (zl a) c1) (t:=.slice B1 (zl b) d1) (L.getN (by simp)) (L.getN (by simp)))).mono ?_
   rintro e w11 ⟨rfl, be⟩
   clear cel00 cel01 cel02 cel03
   replace L:=L.step be
   clear be
   have hvs:=L.tl.b0
   have ha2:=L.getN (v:=.slice A2 (zl s) c2) (x:=s.natAbs) (by simp)
   have hb2:=L.getN (v:=.slice B2 (zl u) d2) (x:=u.natAbs) (by simp)
   have L:=(((LL.out.step L.below).n hb2).n ha2).b hvs
   clear hvs ha2 hb2 LL
   have cel00:=L.b0.c40
   have cel01:=L.b0.c41
   have cel02:=L.b0.c42
   have cel03:=L.b0.c43
   go_wp2_with fail
   refine (O1.out _ _ (isS_n (a:=s) (b:=u) (s:=.slice A2 (zl s) c2) (t:=.slice B2 (zl u) d2) (L.getN (by simp)) (L.getN (by simp)))).mono ?_
   rintro e w12 ⟨vv, rfl, iq, be⟩
   clear cel00 cel01 cel02 cel03
   obtain ⟨A9, c9, B9, d9, rfl, ia, ib⟩:=iq.form
   replace L:=((L.step be).n ib).n ia
   clear be iq ia ib
   go_wp2_with fail
   refine (O2.out _ _ (isS_n (a:=s4) (b:=u4) (s:=.slice A9 (zl s4) c9) (t:=.slice B9 (zl u4) d9) (L.getN (by simp)) (L.getN (by simp)))).mono ?_
   rintro e w13 ⟨vv, rfl, iq, be⟩
   obtain ⟨A10, c10, B10, d10, rfl, ia, ib⟩:=iq.form
   replace L:=((L.step be).n ib).n ia
   clear be iq ia ib
   replace L:=L.swap
   have n1 : w.heap.size ≠ gs:=by omega
   have cel00:=L.b0.c40
   have f00:=L.b0.fr 0
   have cel01:=L.b0.c41
   have f01:=L.b0.fr 1
   have cel02:=L.b0.c42
   have f02:=L.b0.fr 2
   have cel03:=L.b0.c43
   have f03:=L.b0.fr 3
   go_wp2_with fail
   have LP:=L.putS (by omega) (by first | (simp; done) | (simp; omega)) (ng X) A10 (zl X) c10 (ng Y) B10 (zl Y) d10
   have k0:=LP.b0.c40
   have k1:=LP.b0.c41
   have k2:=LP.b0.c42
   have k3:=LP.b0.c43
   unfold put4 at k0 k1 k2 k3
   exact bodyPost_ret (v:=.agg #[.bool (ng X), .slice A10 (zl X) c10, .bool (ng Y), .slice B10 (zl Y) d10]) (by simp [results, Tryz.results45, go_sem, k0, k1, k2, k3]) rfl ⟨_, rfl, isS_n (LP.getN (by simp)) (LP.getN (by simp)), LP.below⟩

section
open Go.ChangeShapes Go.WideShapes Go.ChangeAt

theorem open_slice8 {H : Type} {enc : TypeId × Value → H} {W : World} {base : Nat} {fuel : Nat} {v : Value} {x : DataW H × List MemPlace} (h : DataW.trod enc Tryz.prog W base (fun _ => true) true fuel 22 [v] = some x) : ∃ a n c l, v = .slice a n c ∧ Sl W a n c l:=by
 rcases open_ints Tryz.underlying22 Tryz.underlying129 (by kernel_rfl) h with ⟨hcs, _⟩ | ⟨x, l, c, zs, hcs, _, hl, hm, hz, _, hcell, hwz⟩
 ·exact ⟨none, 0, 0, [], by simpa using hcs, Sl.nil W⟩
 ·exact ⟨_, _, _, _, by simpa using hcs, sl_of_ints hl hm (by simpa using hz) hcell hwz⟩
theorem open_dy {H : Type} {enc : TypeId × Value → H} {W : World} {r : Reach} {b0 base : Nat} {v : Value} {d : DataW H} {p : List MemPlace} (hv : Value.okWide Tryz.prog W r b0 26 v) (h : DataW.Trod enc Tryz.prog W base (fun _ => true) true 26 v d p) :
  ∃ b A n c l e, v = .agg #[.bool b, .slice A n c, .int .i64 e] ∧ Sl W A n c l ∧ -9223372036854775808 ≤ e ∧ e ≤ 9223372036854775807:=by
 obtain ⟨cs, rfl, hsz⟩:=okWide_struct Tryz.underlying26 hv
 obtain ⟨c0, c1, c2, rfl⟩:=Go.Joins.array3 (hsz.trans (show Tryz.prog.cellsOf 26 = 3 by kernel_rfl))
 obtain ⟨fuel, hf⟩:=h
 obtain ⟨y0, y1, n, _, _, h0, h1⟩:=trod_struct2 Tryz.underlying26 hf
 have e0 : Tryz.prog.cellsOf 24 = 2:=by kernel_rfl
 have e1 : Tryz.prog.cellsOf 22 = 1:=by kernel_rfl
 have e3 : Tryz.prog.cellsOf 3 = 1:=by kernel_rfl
 have h0' : DataW.trod enc Tryz.prog W base (fun _ => true) true n 24 [c0, c1] = some y0:=by
  simpa [Value.cells, e0] using h0
 have h1' : DataW.trod enc Tryz.prog W base (fun _ => true) true n 3 [c2] = some y1:=by
  simpa [Value.cells, e3] using h1
 obtain ⟨z0, z1, n2, _, _, g0, g1⟩:=trod_struct2 Tryz.underlying24 h0'
 have e2 : Tryz.prog.cellsOf 4 = 1:=by kernel_rfl
 have g0' : DataW.trod enc Tryz.prog W base (fun _ => true) true n2 4 [c0] = some z0:=by
  simpa [e2] using g0
 have g1' : DataW.trod enc Tryz.prog W base (fun _ => true) true n2 22 [c1] = some z1:=by
  simpa [e1] using g1
 obtain ⟨b, hb, _⟩:=DataW.trod_bool Tryz.underlying4 g0'
 obtain rfl : c0 = .bool b:=by simpa using hb
 obtain ⟨A, n3, c3, l, rfl, s1⟩:=open_slice8 g1'
 obtain ⟨e, he, _, hw⟩:=DataW.trod_int Tryz.underlying3 h1'
 obtain rfl : c2 = .int .i64 e:=by simpa using he
 obtain ⟨k1, k2⟩:=bounds_i64 hw
 exact ⟨b, A, n3, c3, l, e, rfl, s1, k1, k2⟩

end

end Go.Proofs.YtnnfldkllhdhjaaGreatDoor
