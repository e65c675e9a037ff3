/- Joined: AtB, AtC, AtD, AtE, IvPE, AtPE, RefCoD, ExQ, ExK, AtL, Awake16, CpD, CpB, CpC, ExC (what the law leans on). -/
import Derived.Test.YtmgbjldogggpcaaGreatDoorBaseJV
import Derived.Test.YtmgbjldogggpcaaGreatDoorBaseDV
import Derived.Test.YtmgbjldogggpcaaGreatDoorBaseEV
import Derived.Test.YtmgbjldogggpcaaGreatDoorBaseVV
import Derived.Test.YtmgbjldogggpcaaGreatDoorBaseFV
import Derived.Test.YtmgbjldogggpcaaGreatDoorRefDivModV
import Derived.Test.YtmgbjldogggpcaaGreatDoorBaseWV
import Derived.Test.YtmgbjldogggpcaaGreatDoorRefGrBV
import Derived.Test.YtmgbjldogggpcaaGreatDoorBaseXV
import Derived.Test.YtmgbjldogggpcaaGreatDoorGrPCV
import Derived.Test.YtmgbjldogggpcaaGreatDoorBaseZV
import Derived.Test.YtmgbjldogggpcaaGreatDoorBaseUV
import Derived.Test.YtmgbjldogggpcaaGreatDoorJV1
import Derived.Test.YtmgbjldogggpcaaGreatDoorJV2
import Derived.BigQuiet
import Derived.Deep.Cut
import Derived.Deep.CutRange
import Derived.Deep.DrawnRows
import Derived.Deep.QuietTactic
import Derived.Deep.RegionHeld3
namespace Go.Proofs.YtmgbjldogggpcaaGreatDoor
set_option maxHeartbeats 64000000
open Go.RowKit
set_option linter.unusedVariables false
set_option linter.unusedSimpArgs false
set_option maxRecDepth 100000
attribute [local go_sem ↓] Go.wp_at_zero Go.wp_at_succ

theorem tsqrt_any (M E S : Int) (p : Nat) (vx : Value) (w : World) (hx : IsD w vx M E) (hv : Dv M E) (lm : zl M ≤ 140) (he : -4000 ≤ E ∧ E ≤ 4000) (hM : 0 ≤ M) (hS : sqR (dq M E) (p : Int) = S) (hb : AbP S (p + 40)) (hp : p ≤ 2000) (hT : Tab w) :
  Calls Tryz.prog 203 #[vx, .int .i64 (p : Int)] w (RetD8 w (mkM S (-(p : Int))) (mkE S (-(p : Int)))):=by
 obtain ⟨A, c, rfl, _, hn⟩:=hx.form
 have L0:=(Lq.mk0 w).n hn
 have gs:=fun W => tsplit_any p W (by omega)
 have GS:=Hd9 gs
 clear gs
 have wz1 : IntKind.i64.wrap (-(0 : Int)) = 0:=by decide
 have wz2 : IntKind.i64.wrap (2 * (0 : Int)) = 0:=by decide
 have wz3 : IntKind.i64.wrap 0 = 0:=by decide
 obtain ⟨s1, s2, s3⟩:=np_same hv (by omega) (by omega)
 have g1:=fun x W h (hW : Below w.heap.size w W) => dshift_any M E 0 x W h (by omega) (by omega) (by omega) (hT.mono hW)
 rw [s1, s2, s3] at g1
 have hwk : workB (p : Int) = true:=by
  unfold workB
  rw [decide_eq_true (show (0 : Int) ≤ (p : Int) by omega), decide_eq_true (show (p : Int) ≤ 4096 by omega)]
  rfl
 have g2:=fun x W h (hW : Below w.heap.size w W) => dsqrtf_any M E (p : Int) x W h (by omega) (by omega) hv (by omega) (by omega) (hT.mono hW)
 unfold RetSf at g2
 simp only [hwk, if_true, if_neg (show ¬ M < 0 by omega), hS] at g2
 obtain ⟨f1, f2, f3, f4, f5⟩:=nx (x := -(p : Int)) hb (by omega) (by omega)
 obtain ⟨X, hX⟩:=nm9 (mkM S (-(p : Int)))
 obtain ⟨Y, hY⟩:=nm9 (mkE S (-(p : Int)))
 rw [hX] at g2 f2 f4 f5 ⊢
 rw [hY] at g2 f3 f4 f5 ⊢
 obtain ⟨t1, t2, t3⟩:=np_same f4 (by omega) (by omega)
 have g3:=fun x W h (hW : Below w.heap.size w W) => dshift_any X Y 0 x W h (by omega) (by omega) (by omega) (hT.mono hW)
 rw [t1, t2, t3] at g3
 clear hwk f1 f2 f3 f4 f5 t1 t2 t3 s1 s2 s3 hX hY hp hT hS hM hb lm he hv hx
 have G1:=Hd9 g1
 have G2:=Hd9 g2
 have G3:=Hd9 g3
 clear g1 g2 g3
 go_enter Tryz.func203, Tryz.ntmps203
 have L:=((L0.varD (w.heap.size) (by simp) (ng M) A (zl M) c E).varD (w.heap.size + 1) (by simp) false none 0 0 0)
 (try go_wp2_with fail)
 refine (GS.out _).mono ?_
 rintro e9 w' ⟨rfl, rfl⟩
 obtain ⟨c10,c11,c12⟩:=L.tl.b0.a3
 (try go_wp2_with fail)
 refine (G1.out _ _ (isD_n (m:=M) (e:=E) (s:=.slice A (zl M) c) (L.getN (by simp))) L.below).mono ?_
 rintro e w1 ⟨v9, rfl, iz, be⟩
 clear c10 c11 c12
 obtain ⟨A1, c1, rfl, _, in9⟩:=iz.form
 replace L:=(L.step be).n in9
 clear be iz in9
 have hl9:=L.b0.lt
 replace L:=L.varD w1.heap.size rfl (ng M) A1 (zl M) c1 E
 obtain ⟨c00,c01,c02⟩:=L.b0.a3
 (try go_wp2_with fail)
 clear c00 c01 c02
 obtain ⟨g1, hg1⟩:=nm9 (w1.heap.size)
 rw [hg1] at L hl9 ⊢
 clear hg1
 have hl_g1:=hl9
 clear hl9
 refine (G2.out _ _ (isD_n (m:=M) (e:=E) (s:=.slice A1 (zl M) c1) (L.getN (by simp))) L.below).mono ?_
 rintro e w2 ⟨v9, rfl, iz, be⟩
 obtain ⟨A2, c2, rfl, _, in9⟩:=iz.form
 replace L:=(L.step be).n in9
 clear be iz in9
 have hl9:=L.b0.lt
 replace L:=L.varD w2.heap.size rfl (ng X) A2 (zl X) c2 Y
 obtain ⟨c00,c01,c02⟩:=L.b0.a3
 (try go_wp2_with fail)
 clear c00 c01 c02
 obtain ⟨g2, hg2⟩:=nm9 (w2.heap.size)
 rw [hg2] at L hl9 ⊢
 clear hg2
 have hl_g2:=hl9
 clear hl9
 refine (G3.out _ _ (isD_n (m:=X) (e:=Y) (s:=.slice A2 (zl X) c2) (L.getN (by simp))) L.below).mono ?_
 rintro e w3 ⟨v9, rfl, iz, be⟩
 obtain ⟨A6, c6, rfl, _, in9⟩:=iz.form
 replace L:=(L.step be).n in9
 clear be iz in9
 have hl9:=L.b0.lt
 have L9:=L.subx (ns':=[(.slice A6 (zl X) c6, X.natAbs)]) (bs':=[(w.heap.size + 1, 26, #[.bool false, .slice none 0 0, .int .i64 0])]) (by simp) (by simp)
 clear L
 have L:=L9
 clear L9
 have n9 : w.heap.size + 1 ≠ w3.heap.size:=by omega
 obtain ⟨c00,c01,c02⟩:=L.b0.a3
 obtain ⟨f00,f01,f02⟩:=L.b0.f3
 have LN:=L.varD w3.heap.size rfl (ng X) A6 (zl X) c6 Y
 obtain ⟨v0,v1,v2⟩:=LN.b0.a3
 obtain ⟨v3,v4,v5⟩:=LN.tl.b0.a3
 obtain ⟨v6,v7,v8⟩:=LN.tl.b0.f3
 go_wp2_with fail
 clear c00 f00 c01 f01 c02 f02
 clear v0 v1 v2 v3 v4 v5 v6 v7 v8
 clear L
 have L:=LN.swap
 clear LN
 have LP:=L.putD (by omega) (by first | (simp; done) | (simp; omega)) (ng X) A6 (zl X) c6 (Y)
 obtain ⟨k0,k1,k2⟩:=LP.b0.a3
 unfold put3 at k0 k1 k2
 exact bodyPost_ret (v:=.agg #[.bool (ng X), .slice A6 (zl X) c6, .int .i64 (Y)]) (by simp [results, Tryz.results203, go_sem, k0, k1, k2]) rfl ⟨_, rfl, isD_n (LP.getN (by simp)), LP.below⟩
theorem isq_ab {C S : Int} {p : Nat} (h : SqI C S p) (h0 : 0 ≤ C) (hC : AbP C (p + 30)) : AbP S (p + 31) ∧ AbP (C + S) (p + 32):=by
 obtain ⟨b1, b2, b3⟩:=h.big h0
 have s0:=h.nn
 have e : (2 : Nat) ^ (p + 30) = 2 ^ p * 1073741824:=by rw [Nat.pow_add]
 have e1 : (2 : Nat) ^ (p + 31) = 2 ^ p * 2147483648:=by rw [Nat.pow_add]
 have e2 : (2 : Nat) ^ (p + 32) = 2 ^ p * 4294967296:=by rw [Nat.pow_add]
 have ep : ((2 ^ p : Nat) : Int) = 2 ^ p:=by push_cast; rfl
 have pp : 0 < (2 : Nat) ^ p:=Nat.pow_pos (by omega)
 unfold AbP at *
 rw [e] at hC
 rw [e1, e2]
 generalize (2 : Nat) ^ p = P at *
 rw [← ep] at b2 b3
 constructor <;> omega

theorem thalf_any (C S : Int) (p : Nat) (vx : Value) (w : World) (hx : IsD w vx (mkM C (-(p : Int))) (mkE C (-(p : Int)))) (h0 : 0 ≤ C) (hC : AbP C (p + 30)) (hS : sqR (dq C (-(p : Int)) * dq C (-(p : Int)) + 1) (p : Int) = S) (hp : p ≤ 1000) (hT : Tab w) :
  Calls Tryz.prog 156 #[vx, .int .i64 (p : Int)] w (RetD8 w (mkM (C + S) (-(p : Int))) (mkE (C + S) (-(p : Int)))):=by
 obtain ⟨A, c, rfl, _, hn⟩:=hx.form
 have L0:=(Lq.mk0 w).n hn
 have hSI:=sqi C p
 rw [hS] at hSI
 obtain ⟨aS, aT⟩:=isq_ab hSI h0 hC
 obtain ⟨n1, n2, n3, n4, n5⟩:=nx (x := -(p : Int)) hC (by omega) (by omega)
 obtain ⟨m1, m2, m3, m4, m5⟩:=nx (x := -(p : Int)) aS (by omega) (by omega)
 obtain ⟨k1, k2, k3, k4, k5⟩:=nx (x := -(p : Int)) aT (by omega) (by omega)
 have g1:=fun x y W h j (hW : Below w.heap.size w W) => dmul_any (mkM C (-(p : Int))) (mkE C (-(p : Int))) (mkM C (-(p : Int))) (mkE C (-(p : Int))) x y W h j (by omega) (by omega) (by omega) (by omega) (hT.mono hW)
 have z1:=zl_mul (mkM C (-(p : Int))) (mkM C (-(p : Int)))
 have r1 : mkR ((mkM C (-(p : Int))) * (mkM C (-(p : Int)))) ((mkE C (-(p : Int))) + (mkE C (-(p : Int)))) = 0:=mk_fits9 (by omega) (by omega) (by omega)
 have z2:=zl_mk ((mkM C (-(p : Int))) * (mkM C (-(p : Int)))) ((mkE C (-(p : Int))) + (mkE C (-(p : Int))))
 have z3:=mkE_at r1 (k:=80) (by omega)
 have d1:=dq_mk r1
 rw [dq_mul, n5] at d1
 rw [r1] at g1
 obtain ⟨M1, hM1⟩:=nm9 (mkM ((mkM C (-(p : Int))) * (mkM C (-(p : Int)))) ((mkE C (-(p : Int))) + (mkE C (-(p : Int)))))
 obtain ⟨E1, hE1⟩:=nm9 (mkE ((mkM C (-(p : Int))) * (mkM C (-(p : Int)))) ((mkE C (-(p : Int))) + (mkE C (-(p : Int)))))
 rw [hM1] at g1 z2 d1
 rw [hE1] at g1 z3 d1
 have g2:=fun W (hW : Below w.heap.size w W) => dof_any 1 W (by omega) (by omega) (hT.mono hW)
 have h1z : zl 1 ≤ 1:=len_le1 (show 1 < 4294967296 by omega)
 have u1 : mkR 1 0 = 0:=mk_fits9 (by omega) (by omega) (by omega)
 have u2:=zl_mk 1 0
 have u3:=mkE_at u1 (k:=1) h1z
 have u4:=dq_mk u1
 have g3:=fun x y W h j (hW : Below w.heap.size w W) => dadd_any M1 E1 (mkM 1 0) (mkE 1 0) x y W h j (by omega) (by omega) (by omega) (by omega) (hT.mono hW)
 have z4:=zl_addS M1 E1 (mkM 1 0) (mkE 1 0) 4300 (by omega) (by omega)
 have r2 : mkR (addS M1 E1 (mkM 1 0) (mkE 1 0)) (min E1 (mkE 1 0)) = 0:=mk_fits9 (by omega) (by omega) (by omega)
 have d2:=dq_mk r2
 rw [dq_add, d1, u4, show dq 1 0 = 1 by decide +kernel] at d2
 rw [r2] at g3
 have hv2:=mk_ok r2
 -- the sum on the grid of 2 p
 have e2 : dq C (-(p : Int)) * dq C (-(p : Int)) + 1 = dq (C * C + 2 ^ p * 2 ^ p) (-(2 * (p : Int))):=by
  have q1:=dq_mul C (-(p : Int)) C (-(p : Int))
  have q2:=dq_mul (2 ^ p) (-(p : Int)) (2 ^ p) (-(p : Int))
  have q3 : dq (2 ^ p) (-(p : Int)) = 1:=by rw [dq_scale]; exact two_cast p
  rw [q3, Rat.mul_one] at q2
  rw [dq_addI, show -(2 * (p : Int)) = -(p : Int) + -(p : Int) by omega, q1, q2]
 have aQ : AbP (C * C + 2 ^ p * 2 ^ p) (2 * p + 61):=by
  have a1:=hC.mul hC
  have a2 : AbP (2 ^ p * 2 ^ p) (p + p):=AbP.mul (by unfold AbP; rw [Int.natAbs_pow]; exact Nat.le_refl _) (by unfold AbP; rw [Int.natAbs_pow]; exact Nat.le_refl _)
  exact ((a1.up (k:=2 * p + 60) (by omega)).add (a2.up (k:=2 * p + 60) (by omega)))
 obtain ⟨t1, t2, t3, t4, t5⟩:=nx (x := -(2 * (p : Int))) aQ (by omega) (by omega)
 have un:=mk_uniq r2 t1 (by rw [← dq_mk r2, d2, e2])
 obtain ⟨M2, hM2⟩:=nm9 (mkM (addS M1 E1 (mkM 1 0) (mkE 1 0)) (min E1 (mkE 1 0)))
 obtain ⟨E2, hE2⟩:=nm9 (mkE (addS M1 E1 (mkM 1 0) (mkE 1 0)) (min E1 (mkE 1 0)))
 rw [hM2] at g3 d2 hv2 un
 rw [hE2] at g3 d2 hv2 un
 rw [← un.1] at t2
 rw [← un.2] at t3
 have pos2 : 0 ≤ M2:=by
  have h9:=(dq_le_iff 0 M2 E2).1 (by rw [dq_zero, d2]; have:=rsq_nn (dq C (-(p : Int))); grind)
  exact h9
 have g4:=fun x W h (hW : Below w.heap.size w W) => tsqrt_any M2 E2 S p x W h hv2 (by omega) (by omega) pos2 (by rw [d2]; exact hS) (aS.up (by omega)) (by omega) (hT.mono hW)
 have g5:=fun x y W h j (hW : Below w.heap.size w W) => dadd_any (mkM C (-(p : Int))) (mkE C (-(p : Int))) (mkM S (-(p : Int))) (mkE S (-(p : Int))) x y W h j (by omega) (by omega) (by omega) (by omega) (hT.mono hW)
 obtain ⟨y1, y2, y3⟩:=nx_add (x := -(p : Int)) (hC.up (k:=p + 31) (by omega)) aS (by omega) (by omega)
 rw [y1, y2, y3] at g5
 clear y1 y2 y3 un t1 t2 t3 t4 t5 aQ e2 hv2 d2 r2 z4 u1 u2 u3 u4 h1z d1 z3 z2 r1 z1 n1 n2 n3 n4 n5 m1 m2 m3 m4 m5 k1 k2 k3 k4 k5 hSI aS aT pos2 hM1 hE1 hM2 hE2 hS hC h0 hp hT hx hn
 generalize mkM 1 0 = M9 at *
 generalize mkE 1 0 = E9 at *
 generalize mkM (C + S) (-(p : Int)) = MR at *
 generalize mkE (C + S) (-(p : Int)) = ER at *
 generalize mkM S (-(p : Int)) = MS at *
 generalize mkE S (-(p : Int)) = ES at *
 generalize mkM C (-(p : Int)) = MC at *
 generalize mkE C (-(p : Int)) = EC at *
 have G1:=Hd9 g1
 have G2:=Hd9 g2
 have G3:=Hd9 g3
 have G4:=Hd9 g4
 have G5:=Hd9 g5
 clear g1 g2 g3 g4 g5
 go_enter Tryz.func156, Tryz.ntmps156
 have L:=((L0.varD (w.heap.size) (by simp) (ng MC) A (zl MC) c EC).varD (w.heap.size + 1) (by simp) false none 0 0 0)
 obtain ⟨c10,c11,c12⟩:=L.tl.b0.a3
 (try go_wp2_with fail)
 refine (G1.out _ _ _ (isD_n (m:=MC) (e:=EC) (s:=.slice A (zl MC) c) (L.getN (by simp))) (isD_n (m:=MC) (e:=EC) (s:=.slice A (zl MC) c) (L.getN (by simp))) L.below).mono ?_
 rintro e w1 ⟨v9, rfl, iz, be⟩
 clear c10 c11 c12
 obtain ⟨A1, c1, rfl, _, in9⟩:=iz.form
 replace L:=(L.step be).n in9
 clear be iz in9
 have hl9:=L.b0.lt
 replace L:=L.varD w1.heap.size rfl (ng M1) A1 (zl M1) c1 E1
 (try go_wp2_with fail)
 obtain ⟨g1, hg1⟩:=nm9 (w1.heap.size)
 rw [hg1] at L hl9 ⊢
 clear hg1
 have hl_g1:=hl9
 clear hl9
 replace L:=L.drew
 (try go_wp2_with fail)
 have LD:=L
 clear L
 obtain ⟨c00,c01,c02⟩:=LD.b0.a3
 obtain ⟨f00,f01,f02⟩:=LD.b0.f3
 go_cut [] from 15 to 20 (fun wx => ∃ A8 c8, Lq w wx [(.slice A8 (zl M2) c8, M2.natAbs), (.slice A (zl MC) c, MC.natAbs)] [] [] [(g1, 26, #[.bool (ng M2), .slice A8 (zl M2) c8, .int .i64 E2]), (w.heap.size + 1, 26, #[.bool false, .slice none 0 0, .int .i64 0]), (w.heap.size, 26, #[.bool (ng MC), .slice A (zl MC) c, .int .i64 EC])])
 case first =>
  go_region_with (first | (go_at_call 92; (with_reducible refine (G2.out _ LD.below).mono ?_); rintro e9 wh ⟨vh, rfl, id, be⟩; obtain ⟨A7, c7, rfl, _, in9⟩:=id.form; replace LD:=(LD.step be).n in9; clear be id in9; (try (obtain ⟨r0,r1,r2⟩:=LD.b0.a3; obtain ⟨t0,t1,t2⟩:=LD.b0.f3))) | (go_at_call 57; (with_reducible refine (G3.out _ _ _ ?_ ?_ LD.below).mono ?_); (· (refine isD_n (LD.getN ?_) <;> (repeat (first | (with_reducible exact mS) | apply mT)))); (· (refine isD_n (LD.getN ?_) <;> (repeat (first | (with_reducible exact mS) | apply mT)))); rintro e9 wh ⟨vh, rfl, id, be⟩; obtain ⟨A8, c8, rfl, _, in9⟩:=id.form; replace LD:=(LD.step be).n in9; clear be id in9; (try (obtain ⟨r0,r1,r2⟩:=LD.b0.a3; obtain ⟨t0,t1,t2⟩:=LD.b0.f3))))
  all_goals
   have LP:=LD.putD (by omega) (by first | (simp; done) | (simp; omega)) (ng M2) A8 (zl M2) c8 E2
   unfold put3 at LP
   go_wp2_with fail
   go_meet
   exact ⟨A8, c8, LP.subx (by simp) (by simp)⟩
 case rest =>
  obtain ⟨A8, c8, L⟩:=hcut
  generalize wc = wd0 at *
  clear LD
  have hl_g1:=L.b0.lt
  (try go_wp2_with fail)
  obtain ⟨V, hV, L9⟩:=L.name
  rw [hV]
  clear hV L
  have L:=L9
  clear L9
  have Q0:=Hd9 (fun Z (hZ : Below V.heap.size V Z) => (L.b0.mono hZ).c30)
  have Q1:=Hd9 (fun Z (hZ : Below V.heap.size V Z) => (L.b0.mono hZ).c31)
  have Q2:=Hd9 (fun Z (hZ : Below V.heap.size V Z) => (L.b0.mono hZ).c32)
  have Q3:=Hd9 (fun Z (hZ : Below V.heap.size V Z) => (L.tl.tl.b0.mono hZ).c30)
  have Q4:=Hd9 (fun Z (hZ : Below V.heap.size V Z) => (L.tl.tl.b0.mono hZ).c31)
  have Q5:=Hd9 (fun Z (hZ : Below V.heap.size V Z) => (L.tl.tl.b0.mono hZ).c32)
  have hb0:=L.b0.lt
  have hb1:=L.tl.tl.b0.lt
  have D0 : Dq V V [(.slice A8 (zl M2) c8, (M2 : Int).natAbs), (.slice A (zl MC) c, (MC : Int).natAbs)] [] [] []:=⟨(((Lq.mk0 V).n (L.getN (v:=.slice A (zl MC) c) (x:=(MC : Int).natAbs) (by simp))).n (L.getN (v:=.slice A8 (zl M2) c8) (x:=(M2 : Int).natAbs) (by simp))), List.nodup_nil, fun p hp => by cases hp⟩
  have D:=D0.drew
  have hVw:=L.below.size
  have HVW:=Hd9 (fun Z (hZ : Below V.heap.size V Z) => L.below.trans (hZ.mono hVw))
  have LL:=Hd9 L
  clear L
  obtain ⟨K, hK⟩:=nm9 (V.heap.size)
  have hz0 : K ≤ V.heap.size:=by omega
  have hmd : V.drew.heap.size = K:=hK
  have hc0 : g1 < K:=by omega
  have hc1 : w.heap.size < K:=by omega
  go_cut [7, 8] from 21 to 28 (fun s0 s1 wx => s1 = .int .i64 0 ∧ Made1D V MR ER s0 wx)
  case first =>
   go_region_held3 (fun w' => w'.cell? ⟨g1, 0, none⟩ = some (.bool (ng M2)) ∧ w'.cell? ⟨g1, 1, none⟩ = some (.slice A8 (zl M2) c8) ∧ w'.cell? ⟨g1, 2, none⟩ = some (.int .i64 E2) ∧ w'.cell? ⟨w.heap.size, 0, none⟩ = some (.bool (ng MC)) ∧ w'.cell? ⟨w.heap.size, 1, none⟩ = some (.slice A (zl MC) c) ∧ w'.cell? ⟨w.heap.size, 2, none⟩ = some (.int .i64 EC)) (((try dsimp only); refine ⟨?_, ?_, ?_, ?_, ?_, ?_⟩ <;> (repeat (first | (with_reducible exact Q0.out _ D.lq.below) | (with_reducible exact Q0.out _ D0.lq.below) | (with_reducible exact Q1.out _ D.lq.below) | (with_reducible exact Q1.out _ D0.lq.below) | (with_reducible exact Q2.out _ D.lq.below) | (with_reducible exact Q2.out _ D0.lq.below) | (with_reducible exact Q3.out _ D.lq.below) | (with_reducible exact Q3.out _ D0.lq.below) | (with_reducible exact Q4.out _ D.lq.below) | (with_reducible exact Q4.out _ D0.lq.below) | (with_reducible exact Q5.out _ D.lq.below) | (with_reducible exact Q5.out _ D0.lq.below) | (with_reducible refine c_alloc _ ?_) | (with_reducible refine c_drew ?_) | (with_reducible refine c_set ?_ (by assumption) ?_) | omega)))) (first | (go_at_call 203; (with_reducible refine (G4.out _ _ ?_ ?_).mono ?_); (· (first | (with_reducible refine isD_n (D.getN ?_); (repeat (first | (with_reducible exact mS) | apply mT))) | (with_reducible refine isD_n ((D.boxD false none 0 0 0).getN ?_); (repeat (first | (with_reducible exact mS) | apply mT))) | (with_reducible refine isD_n ((D0.boxD false none 0 0 0).drew.getN ?_); (repeat (first | (with_reducible exact mS) | apply mT))))); (· (first | (with_reducible exact HVW.out _ D.lq.below) | (with_reducible exact HVW.out _ (D.boxD false none 0 0 0).lq.below) | (with_reducible exact HVW.out _ (D0.boxD false none 0 0 0).drew.lq.below))); rintro e9 wh ⟨vh, rfl, id, be⟩; obtain ⟨A3, c3, rfl, _, in9⟩:=id.form; (first | (replace D:=D.step be) | (replace D:=(D.boxMD hmd false none 0 0 0).step be) | (replace D:=(D.boxD false none 0 0 0).step be)); have hz:=be.size; (try simp at hz); replace D:=D.n in9; (try (obtain ⟨x00,x01,x02⟩:=D.lq.b0.a3; obtain ⟨y00,y01,y02⟩:=D.lq.b0.f3)); (try obtain ⟨na, nb, nc, nd, nl⟩:=D.n0)) | (go_at_call 57; (with_reducible refine (G5.out _ _ _ ?_ ?_ ?_).mono ?_); (· (first | (with_reducible refine isD_n (D.getN ?_); (repeat (first | (with_reducible exact mS) | apply mT))) | (with_reducible refine isD_n ((D.boxD false none 0 0 0).getN ?_); (repeat (first | (with_reducible exact mS) | apply mT))) | (with_reducible refine isD_n ((D0.boxD false none 0 0 0).drew.getN ?_); (repeat (first | (with_reducible exact mS) | apply mT))))); (· (first | (with_reducible refine isD_n (D.getN ?_); (repeat (first | (with_reducible exact mS) | apply mT))) | (with_reducible refine isD_n ((D.boxD false none 0 0 0).getN ?_); (repeat (first | (with_reducible exact mS) | apply mT))) | (with_reducible refine isD_n ((D0.boxD false none 0 0 0).drew.getN ?_); (repeat (first | (with_reducible exact mS) | apply mT))))); (· (first | (with_reducible exact HVW.out _ D.lq.below) | (with_reducible exact HVW.out _ (D.boxD false none 0 0 0).lq.below) | (with_reducible exact HVW.out _ (D0.boxD false none 0 0 0).drew.lq.below))); rintro e9 wh ⟨vh, rfl, id, be⟩; obtain ⟨A4, c4, rfl, _, in9⟩:=id.form; (first | (replace D:=D.step be) | (replace D:=(D.boxMD hmd false none 0 0 0).step be) | (replace D:=(D.boxD false none 0 0 0).step be)); have hz:=be.size; (try simp at hz); replace D:=D.n in9; (try (obtain ⟨x00,x01,x02⟩:=D.lq.b0.a3; obtain ⟨y00,y01,y02⟩:=D.lq.b0.f3)); (try obtain ⟨na, nb, nc, nd, nl⟩:=D.n0)))
   all_goals
    go_wp2_with fail
    go_meet
    refine ⟨rfl, ?_⟩
    first
    | ((with_reducible refine made1d_a D ?_) <;> (repeat (first | (with_reducible exact mS) | apply mT)))
    | ((with_reducible refine made1d_b D ?_) <;> (repeat (first | (with_reducible exact mS) | apply mT)))
  case rest =>
   obtain ⟨rfl, g2, A9, c9, rfl, hg9, bw, hb9, q1⟩:=hcut
   have L:=((LL.out.step bw).n q1).b hb9
   have hl_g2:=hg9
   clear D D0 hmd LL hb9 q1 bw hg9 HVW Q0 Q1 Q2 Q3 Q4 Q5 hc0 hc1
   generalize wc = wd30 at *
   have hv9:=L.b0
   have hl9:=hv9.lt
   have L9:=L.subx (ns':=[(.slice A9 (zl MR) c9, MR.natAbs)]) (bs':=[(w.heap.size + 1, 26, #[.bool false, .slice none 0 0, .int .i64 0]), (g2, 26, #[.bool (ng MR), .slice A9 (zl MR) c9, .int .i64 ER])]) (by simp) (by simp)
   clear L hv9
   have L:=L9
   clear L9
   have n9 : w.heap.size + 1 ≠ g2:=by omega
   obtain ⟨c00,c01,c02⟩:=L.b0.a3
   obtain ⟨f00,f01,f02⟩:=L.b0.f3
   obtain ⟨c10,c11,c12⟩:=L.tl.b0.a3
   (try go_wp2_with fail)
   clear c00 f00 c01 f01 c02 f02 c10 c11 c12
   have LP:=L.putD (by omega) (by first | (simp; done) | (simp; omega)) (ng MR) A9 (zl MR) c9 (ER)
   obtain ⟨k0,k1,k2⟩:=LP.b0.a3
   unfold put3 at k0 k1 k2
   exact bodyPost_ret (v:=.agg #[.bool (ng MR), .slice A9 (zl MR) c9, .int .i64 (ER)]) (by simp [results, Tryz.results156, go_sem, k0, k1, k2]) rfl ⟨_, rfl, isD_n (LP.getN (by simp)), LP.below⟩

theorem cut_fl (a b : Int) (p : Nat) : cutQ (dq a (-(p : Int)) * dq b (-(p : Int))) (p : Int) = a * b / 2 ^ p:=by
 refine cut_unique (dq_fl a b p).1 ?_
 have t:=two_cast p
 have u:=dq_pos (-(p : Int))
 have hp:=pow2_pos p
 have h2 : a * b < (a * b / 2 ^ p + 1) * 2 ^ p:=Int.lt_ediv_add_one_mul_self _ hp
 have c2:=Rat.intCast_lt_intCast.2 h2
 rw [Rat.intCast_mul, Rat.intCast_mul, Rat.intCast_add] at c2
 rw [dq_scale a, dq_scale b, dq_scale (a * b / 2 ^ p)]
 generalize dq 1 (-(p : Int)) = U at *
 generalize (((2 : Int) ^ p : Int) : Rat) = T at *
 generalize ((a * b / 2 ^ p : Int) : Rat) = F at *
 have o : ((1 : Int) : Rat) = 1:=rfl
 rw [o] at c2
 have m2:=Rat.mul_lt_mul_of_pos_right c2 (Rat.mul_pos u u)
 have e2 : (F + 1) * T * (U * U) = (F + 1) * U * (T * U):=by grind
 rw [e2, t] at m2
 grind
theorem cut_int (P : Int) {k : Int} (hk : 0 < k) (p : Nat) : cutQ (dq P (-(p : Int)) / dq k 0) (p : Int) = P / k:=by
 have u:=dq_pos (-(p : Int))
 have kk : (0 : Rat) < (k : Rat):=Rat.intCast_lt_intCast.2 hk
 have e0 : dq k 0 = (k : Rat):=dq_int k
 rw [e0]
 have dv : dq P (-(p : Int)) / (k : Rat) * (k : Rat) = dq P (-(p : Int)):=Rat.div_mul_cancel (Rat.ne_of_gt kk)
 refine cut_unique (le_of_mul kk (by rw [dv]; exact fdiv_le hk _)) ?_
 refine lt_of_mul9 kk ?_
 rw [dv, ← dq_succ, dq_scale (P / k + 1), dq_scale P]
 have c:=Rat.intCast_lt_intCast.2 (Int.lt_ediv_add_one_mul_self P hk)
 rw [Rat.intCast_mul] at c
 have m:=Rat.mul_lt_mul_of_pos_right c u
 grind
theorem cmp_z {x : Int} : cmpI x 0 = 0 ↔ x = 0:=by
 unfold cmpI
 (repeat' split) <;> omega
theorem mk_z {x e : Int} (h : mkR x e = 0) : mkM x e = 0 ↔ x = 0:=by
 have q:=dq_mk h
 constructor
 ·intro h0
  rw [h0, dq_zero] at q
  have a:=(dq_le_iff x 0 e).1 (by rw [dq_zero, ← q]; exact Rat.le_refl)
  have b:=(dq_le_iff 0 x e).1 (by rw [dq_zero, ← q]; exact Rat.le_refl)
  omega
 ·intro h0
  subst h0
  rw [dq_zero] at q
  have a:=(dq_le_iff (mkM 0 e) 0 (mkE 0 e)).1 (by rw [dq_zero, q]; exact Rat.le_refl)
  have b:=(dq_le_iff 0 (mkM 0 e) (mkE 0 e)).1 (by rw [dq_zero, q]; exact Rat.le_refl)
  omega
def RetAs (w : World) (X Q : Int) (p : Nat) (en : Ending) (w' : World) : Prop:=∃ n, n ≤ 60 ∧ pwA Q X p n = 0 ∧ RetD8 w (mkM (smA Q X p n) (-(p : Int))) (mkE (smA Q X p n) (-(p : Int))) en w'
theorem unit_ab {x : Int} {p : Nat} (h0 : 0 ≤ x) (h : x * 1024 ≤ 2 ^ p) : AbP x p:=by
 have e : ((2 ^ p : Nat) : Int) = 2 ^ p:=by push_cast; rfl
 unfold AbP
 omega
theorem unit_dq {x : Int} {p : Nat} (h0 : 0 ≤ x) (h : x * 1024 ≤ 2 ^ p) : 0 ≤ dq x (-(p : Int)) ∧ dq x (-(p : Int)) ≤ 1:=by
 have a:=(dq_le_iff 0 x (-(p : Int))).2 h0
 have b:=(dq_le_iff x (2 ^ p) (-(p : Int))).2 (by omega)
 rw [dq_zero] at a
 rw [dq_scale (2 ^ p), two_cast] at b
 exact ⟨a, b⟩
structure SeA (X Q : Int) (p j : Nat) (MP EP MT ET : Int) : Prop where
 b : j = 0 ∨ 20 * (j - 1) + 10 ≤ p
 mp : mkM (pwA Q X p j) (-(p : Int)) = MP
 ep : mkE (pwA Q X p j) (-(p : Int)) = EP
 mt : mkM (smA Q X p j) (-(p : Int)) = MT
 et : mkE (smA Q X p j) (-(p : Int)) = ET

theorem tser_any (X Q : Int) (p : Nat) (vx : Value) (w : World) (hx : IsD w vx (mkM X (-(p : Int))) (mkE X (-(p : Int)))) (hX : SmX X Q p) (hp : p ≤ 700) (hT : Tab w) :
  Calls Tryz.prog 145 #[vx, .int .i64 (p : Int)] w (RetAs w X Q p):=by
 obtain ⟨A, c, rfl, _, hn⟩:=hx.form
 have L0:=(Lq.mk0 w).n hn
 have HT:=Hd9 (fun W (hW : Below w.heap.size w W) => hT.mono hW)
 have HX:=Hd9 hX
 have HP:=Hd9 hp
 have aX:=unit_ab hX.nn hX.lt
 have qq:=hX.q
 have aQ : AbP Q p:=unit_ab qq.1 (by omega)
 obtain ⟨n1, n2, n3, n4, n5⟩:=nx (x := -(p : Int)) aX (by omega) (by omega)
 obtain ⟨q1, q2, q3, q4, q5⟩:=nx (x := -(p : Int)) aQ (by omega) (by omega)
 have g1:=fun x y W h j (hW : Below w.heap.size w W) => tprod_any (mkM X (-(p : Int))) (mkE X (-(p : Int))) (mkM X (-(p : Int))) (mkE X (-(p : Int))) Q p x y W h j (by omega) (by omega) (by omega) (by omega) (by rw [n5, cut_fl]; exact hX.sq.symm) (aQ.up (by omega)) (by omega) (hT.mono hW)
 have G1:=Hd9 g1
 have HQ:=Hd9 (And.intro q2 (And.intro q3 q5))
 have HJ0:=Hd9 (show SeA X Q p 0 (mkM X (-(p : Int))) (mkE X (-(p : Int))) 0 0 from ⟨Or.inl rfl, rfl, rfl, (nx_zero (by omega)).1, (nx_zero (by omega)).2⟩)
 clear g1 n1 n2 n3 n4 n5 q1 q2 q3 q4 q5 qq aX aQ hX hT hx hn
 obtain ⟨M0, hM0⟩:=nm9 (mkM X (-(p : Int)))
 rw [hM0] at G1 L0 HJ0 ⊢
 clear hM0
 obtain ⟨E0, hE0⟩:=nm9 (mkE X (-(p : Int)))
 rw [hE0] at G1 HJ0 ⊢
 clear hE0
 obtain ⟨MQ, hMQ⟩:=nm9 (mkM Q (-(p : Int)))
 rw [hMQ] at G1 HQ
 clear hMQ
 obtain ⟨EQ, hEQ⟩:=nm9 (mkE Q (-(p : Int)))
 rw [hEQ] at G1 HQ
 clear hEQ
 go_enter Tryz.func145, Tryz.ntmps145
 have L:=((L0.varD (w.heap.size) (by simp) (ng M0) A (zl M0) c E0).varD (w.heap.size + 1) (by simp) false none 0 0 0)
 obtain ⟨c10,c11,c12⟩:=L.tl.b0.a3
 (try go_wp2_with fail)
 refine (G1.out _ _ _ (isD_n (m:=M0) (e:=E0) (s:=.slice A (zl M0) c) (L.getN (by simp))) (isD_n (m:=M0) (e:=E0) (s:=.slice A (zl M0) c) (L.getN (by simp))) L.below).mono ?_
 rintro e w1 ⟨v9, rfl, iz, be⟩
 clear c10 c11 c12
 obtain ⟨A1, c1, rfl, _, in9⟩:=iz.form
 replace L:=(L.step be).n in9
 clear be iz in9
 have hl9:=L.b0.lt
 obtain ⟨gq, hgq⟩:=nm9 (w1.heap.size)
 have L1:=L.varD gq hgq.symm (ng MQ) A1 (zl MQ) c1 EQ
 have L2:=L1.varD (gq + 1) (by simp; omega) false none 0 0 0
 have L3:=L2.varD (gq + 2) (by simp; omega) (ng M0) A (zl M0) c E0
 rw [hgq] at hl9
 obtain ⟨u0,u1,u2⟩:=L1.b0.a3
 obtain ⟨v0,v1,v2⟩:=L2.b0.a3
 obtain ⟨x0,x1,x2⟩:=L2.tl.tl.tl.b0.a3
 obtain ⟨y0,y1,y2⟩:=L3.b0.a3
 obtain ⟨z0,z1,z2⟩:=L.tl.b0.a3
 have hsz : w1.heap.size = gq:=hgq
 go_wp2_with fail
 clear u0 u1 u2 v0 v1 v2 x0 x1 x2 y0 y1 y2 z0 z1 z2
 have hgr : w.heap.size + 1 < gq:=hl9
 clear hsz hl9 L L1 L2
 go_loopw [8] (fun i wr => ∃ (j : Nat) (MP EP MT ET : Int) (B C : Option Addr) (d d2 : Nat), i = .int .i64 (2 * (j : Int) + 1) ∧ Lq w wr [(.slice B (zl MP) d, MP.natAbs), (.slice C (zl MT) d2, MT.natAbs), (.slice A1 (zl MQ) c1, MQ.natAbs)] [] [] [(gq + 2, 26, #[.bool (ng MP), .slice B (zl MP) d, .int .i64 EP]), (gq + 1, 26, #[.bool (ng MT), .slice C (zl MT) d2, .int .i64 ET]), (gq, 26, #[.bool (ng MQ), .slice A1 (zl MQ) c1, .int .i64 EQ]), (w.heap.size + 1, 26, #[.bool false, .slice none 0 0, .int .i64 0])] ∧ Hid (SeA X Q p j MP EP MT ET)) (fun i _ => (2000 - intOf i).toNat)
 case atStart =>
  refine ⟨0, M0, E0, 0, 0, A, none, c, 0, by go_num, ?_, HJ0⟩
  have zz0 : zl 0 = 0:=zl_zero
  have nn0 : ng 0 = false:=rfl
  rw [zz0, nn0]
  exact (L3.n (IsN.zero _)).subx (by simp) (by simp)
 case round =>
  clear L3 HJ0
  obtain ⟨j, MP, EP, MT, ET, B, C, d, d2, rfl, L, HJ⟩:=hrel
  have hX:=HX.out
  have hp:=HP.out
  obtain ⟨hb, hmp, hep, hmt, het⟩:=HJ.out
  have hj60 : j ≤ 60:=by omega
  have pn:=pw_nn hX j
  have pl:=pw_le hX j
  have xl:=hX.lt
  have aP:=unit_ab pn (show pwA Q X p j * 1024 ≤ 2 ^ p by omega)
  have uP:=unit_dq pn (show pwA Q X p j * 1024 ≤ 2 ^ p by omega)
  have aT:=sm_ab hX (n:=j) (by omega)
  obtain ⟨t1, t2, t3, t4, t5⟩:=nx (x := -(p : Int)) aP (by omega) (by omega)
  obtain ⟨s1, s2, s3, s4, s5⟩:=nx (x := -(p : Int)) aT (by omega) (by omega)
  have hz:=mk_z t1
  rw [hmp] at t2 t4 t5 hz
  rw [hep] at t3 t4 t5
  rw [hmt] at s2 s4 s5
  rw [het] at s3 s4 s5
  have gs:=fun v W h => dsign_any MP EP v W h (by omega)
  obtain ⟨sg, hsg⟩:=nm9 (cmpI MP 0)
  have hc:=cmp_z (x:=MP)
  rw [hsg] at gs hc
  have hl0:=L.b0.lt
  by_cases hz0 : sg = 0
  ·subst hz0
   have GS:=Hd9 gs
   have hend:=hz.1 (hc.1 rfl)
   have HR:=Hd9 (show ∃ n, n ≤ 60 ∧ pwA Q X p n = 0 ∧ mkM (smA Q X p n) (-(p : Int)) = MT ∧ mkE (smA Q X p n) (-(p : Int)) = ET from ⟨j, hj60, hend, hmt, het⟩)
   clear gs hz hc hsg hend hX hp hb hmp hep hmt het hj60 pn pl xl aP uP aT t1 t2 t3 t4 t5 s1 s2 s3 s4 s5 HJ
   obtain ⟨cel00,cel01,cel02⟩:=L.b0.a3
   (try go_wp2_with fail)
   refine (GS.out _ _ (isD_n (m:=MP) (e:=EP) (s:=.slice B (zl MP) d) (L.getN (by simp)))).mono ?_
   rintro e w41 ⟨rfl, be⟩
   clear cel00 cel01 cel02
   replace L:=L.step be
   clear be
   have hv9:=L.tl.b0
   have hl9:=hv9.lt
   have L9:=L.subx (ns':=[(.slice C (zl MT) d2, MT.natAbs)]) (bs':=[(w.heap.size + 1, 26, #[.bool false, .slice none 0 0, .int .i64 0]), (gq + 1, 26, #[.bool (ng MT), .slice C (zl MT) d2, .int .i64 ET])]) (by simp) (by simp)
   clear L hv9
   have L:=L9
   clear L9
   have n9 : w.heap.size + 1 ≠ gq + 1:=by omega
   obtain ⟨cel00,cel01,cel02⟩:=L.b0.a3
   obtain ⟨f00,f01,f02⟩:=L.b0.f3
   obtain ⟨cel10,cel11,cel12⟩:=L.tl.b0.a3
   (try go_wp2_with fail)
   clear cel00 f00 cel01 f01 cel02 f02 cel10 cel11 cel12
   obtain ⟨n, hn1, hn2, hn3, hn4⟩:=HR.out
   have LP:=L.putD (by omega) (by first | (simp; done) | (simp; omega)) (ng MT) C (zl MT) d2 (ET)
   obtain ⟨k0,k1,k2⟩:=LP.b0.a3
   unfold put3 at k0 k1 k2
   exact bodyPost_ret (v:=.agg #[.bool (ng MT), .slice C (zl MT) d2, .int .i64 (ET)]) (by simp [results, Tryz.results145, go_sem, k0, k1, k2]) rfl ⟨n, hn1, hn2, _, rfl, by rw [hn3, hn4]; exact isD_n (LP.getN (by simp)), LP.below⟩
  ·have GS:=Hd9 gs
   have hpz : pwA Q X p j ≠ 0:=fun h => hz0 (hc.2 (hz.2 h))
   have hj2:=pw_end hX hpz
   have hsb : (sg != 0) = true:=by simp [hz0]
   have hk : (0 : Int) < 2 * (j : Int) + 1:=by omega
   obtain ⟨N, hN⟩:=nm9 (2 * (j : Int) + 1)
   have aN : AbP N 14:=by
    have e : (2 : Nat) ^ 14 = 16384:=by decide
    unfold AbP
    rw [e]
    omega
   obtain ⟨o1, o2, o3, o4, o5⟩:=nx (x:=0) aN (by omega) (by omega)
   have g2:=fun W (hW : Below w.heap.size w W) => dof_any N W (by omega) (by omega) (HT.out W hW)
   obtain ⟨T, hT9⟩:=nm9 (pwA Q X p j / N)
   have hT0 : 0 ≤ T:=by rw [← hT9]; exact Int.ediv_nonneg pn (by omega)
   have hT1 : T ≤ pwA Q X p j:=by rw [← hT9]; exact Int.ediv_le_self _ pn
   have aTt:=unit_ab hT0 (show T * 1024 ≤ 2 ^ p by omega)
   have n1 : (1 : Rat) ≤ dq N 0:=by
    rw [dq_int]
    have:=Rat.intCast_le_intCast.2 (show (1 : Int) ≤ N by omega)
    exact this
   have g3:=fun x y W h i (hW : Below w.heap.size w W) => tquot_any MP EP (mkM N 0) (mkE N 0) T p x y W h i t4 o4 (by omega) (by omega) (by omega) (by omega) (by rw [t5]; exact uP.1) (by rw [t5]; exact uP.2) (by rw [o5]; grind) (by rw [t5, o5, cut_int _ (by omega)]; exact hT9) (by omega) (HT.out W hW)
   obtain ⟨r1, r2, r3, r4, r5⟩:=nx (x := -(p : Int)) aTt (by omega) (by omega)
   obtain ⟨q2, q3, q5⟩:=HQ.out
   have g7:=fun x y W h i (hW : Below w.heap.size w W) => tprod_any MP EP MQ EQ (pwA Q X p (j + 1)) p x y W h i (by omega) (by omega) (by omega) (by omega) (by rw [t5, q5, cut_fl]; rfl) ((unit_ab (p:=p) (pw_nn hX (j + 1)) (by have:=pw_le hX (j + 1); omega)).up (by omega)) (by omega) (HT.out W hW)
   have w1 : IntKind.i64.wrap (N + 2) = 2 * ((j + 1 : Nat) : Int) + 1:=by rw [IntKind.wrap_i64]; omega
   have evc:=evn_succ j
   have es : smA Q X p (j + 1) = smA Q X p j + (if evn j then T else -T):=by rw [← hT9, ← hN]; rfl
   have hev : evn j = decide (j % 2 = 0):=rfl
   cases he : evn j
   ·rw [he] at es hev
    have hm : N.tmod 4 = 3:=by
     have:=of_decide_eq_false hev.symm
     rw [Int.tmod_eq_emod_of_nonneg (by omega)]
     omega
    have es2 : smA Q X p (j + 1) = smA Q X p j - T:=by rw [es]; rw [Int.sub_eq_add_neg]; rfl
    have g5:=fun v W h => dneg_any (mkM T (-(p : Int))) (mkE T (-(p : Int))) v W h (by omega)
    have zn:=zl_neg (mkM T (-(p : Int)))
    have g6:=fun x y W h i (hW : Below w.heap.size w W) => dadd_any MT ET (-mkM T (-(p : Int))) (mkE T (-(p : Int))) x y W h i (by omega) (by omega) (by omega) (by omega) (HT.out W hW)
    have nxs:=nx_sub (x := -(p : Int)) aT aTt (by omega) (by omega)
    rw [hmt, het] at nxs
    obtain ⟨y1, y2, y3⟩:=nxs
    rw [y1, y2, y3, ← es2] at g6
    have HJ2:=Hd9 (show SeA X Q p (j + 1) (mkM (pwA Q X p (j + 1)) (-(p : Int))) (mkE (pwA Q X p (j + 1)) (-(p : Int))) (mkM (smA Q X p (j + 1)) (-(p : Int))) (mkE (smA Q X p (j + 1)) (-(p : Int))) from ⟨Or.inr (by omega), rfl, rfl, rfl, rfl⟩)
    have G2:=Hd9 g2
    have G3:=Hd9 g3
    have G5:=Hd9 g5
    have G6:=Hd9 g6
    have G7:=Hd9 g7
    have HM:=Hd9 (And.intro hj60 hN)
    clear g2 g3 g5 g6 g7 gs hz hc hsg hX hp hb hmp hep hmt het hj60 pn pl xl aP uP aT t1 t2 t3 t4 t5 s1 s2 s3 s4 s5 HJ hpz hj2 hk aN o1 o2 o3 o4 o5 hT9 hT0 hT1 aTt n1 r1 r2 r3 r4 r5 q2 q3 q5 evc es hev es2 zn y1 y2 y3 he HQ
    rw [hN]
    obtain ⟨MP2, hMP2⟩:=nm9 (mkM (pwA Q X p (j + 1)) (-(p : Int)))
    rw [hMP2] at G7 HJ2
    clear hMP2
    obtain ⟨EP2, hEP2⟩:=nm9 (mkE (pwA Q X p (j + 1)) (-(p : Int)))
    rw [hEP2] at G7 HJ2
    clear hEP2
    obtain ⟨MT2, hMT2⟩:=nm9 (mkM (smA Q X p (j + 1)) (-(p : Int)))
    rw [hMT2] at G6 HJ2
    clear hMT2
    obtain ⟨ET2, hET2⟩:=nm9 (mkE (smA Q X p (j + 1)) (-(p : Int)))
    rw [hET2] at G6 HJ2
    clear hET2
    obtain ⟨Mt, hMt⟩:=nm9 (mkM T (-(p : Int)))
    rw [hMt] at G3 G5 G6
    clear hMt
    obtain ⟨Et, hEt⟩:=nm9 (mkE T (-(p : Int)))
    rw [hEt] at G3 G5 G6
    clear hEt
    obtain ⟨Mo, hMo⟩:=nm9 (mkM N 0)
    rw [hMo] at G2 G3
    clear hMo
    obtain ⟨Eo, hEo⟩:=nm9 (mkE N 0)
    rw [hEo] at G2 G3
    clear hEo
    obtain ⟨cel00,cel01,cel02⟩:=L.b0.a3
    (try go_wp2_with fail)
    refine (GS.out _ _ (isD_n (m:=MP) (e:=EP) (s:=.slice B (zl MP) d) (L.getN (by simp)))).mono ?_
    rintro e w41 ⟨rfl, be⟩
    clear cel00 cel01 cel02
    replace L:=L.step be
    clear be
    have hl_gp:=L.b0.lt
    (try go_wp2_with fail)
    obtain ⟨V, hV, L9⟩:=L.name
    rw [hV]
    clear hV L
    have L:=L9
    clear L9
    have Q0:=Hd9 (fun Z (hZ : Below V.heap.size V Z) => (L.b0.mono hZ).c30)
    have Q1:=Hd9 (fun Z (hZ : Below V.heap.size V Z) => (L.b0.mono hZ).c31)
    have Q2:=Hd9 (fun Z (hZ : Below V.heap.size V Z) => (L.b0.mono hZ).c32)
    have hb0:=L.b0.lt
    have D0 : Dq V V [(.slice B (zl MP) d, (MP : Int).natAbs)] [] [] []:=⟨((Lq.mk0 V).n (L.getN (v:=.slice B (zl MP) d) (x:=(MP : Int).natAbs) (by simp))), List.nodup_nil, fun p hp => by cases hp⟩
    have D:=D0.drew
    have hVw:=L.below.size
    have HVW:=Hd9 (fun Z (hZ : Below V.heap.size V Z) => L.below.trans (hZ.mono hVw))
    have LL:=Hd9 L
    clear L
    obtain ⟨K, hK⟩:=nm9 (V.heap.size)
    have hz0 : K ≤ V.heap.size:=by omega
    have hmd : V.drew.heap.size = K:=hK
    have hc0 : gq + 2 < K:=by omega
    go_cut [9] from 21 to 25 (fun s0 wx => Made1D V Mt Et s0 wx)
    case first =>
     go_region_held3 (fun w' => w'.cell? ⟨gq + 2, 0, none⟩ = some (.bool (ng MP)) ∧ w'.cell? ⟨gq + 2, 1, none⟩ = some (.slice B (zl MP) d) ∧ w'.cell? ⟨gq + 2, 2, none⟩ = some (.int .i64 EP)) (((try dsimp only); refine ⟨?_, ?_, ?_⟩ <;> (repeat (first | (with_reducible exact Q0.out _ D.lq.below) | (with_reducible exact Q0.out _ D0.lq.below) | (with_reducible exact Q1.out _ D.lq.below) | (with_reducible exact Q1.out _ D0.lq.below) | (with_reducible exact Q2.out _ D.lq.below) | (with_reducible exact Q2.out _ D0.lq.below) | (with_reducible refine c_alloc _ ?_) | (with_reducible refine c_drew ?_) | (with_reducible refine c_set ?_ (by assumption) ?_) | omega)))) (first | (go_at_call 92; (with_reducible refine (G2.out _ ?_).mono ?_); (· (first | (with_reducible exact HVW.out _ D.lq.below) | (with_reducible exact HVW.out _ (D.boxD false none 0 0 0).lq.below) | (with_reducible exact HVW.out _ (D0.boxD false none 0 0 0).drew.lq.below))); rintro e9 wh ⟨vh, rfl, id, be⟩; obtain ⟨A7, c7, rfl, _, in9⟩:=id.form; (first | (replace D:=D.step be) | (replace D:=(D.boxMD hmd false none 0 0 0).step be) | (replace D:=(D.boxD false none 0 0 0).step be)); have hz:=be.size; (try simp at hz); replace D:=D.n in9; (try (obtain ⟨x00,x01,x02⟩:=D.lq.b0.a3; obtain ⟨y00,y01,y02⟩:=D.lq.b0.f3)); (try obtain ⟨na, nb, nc, nd, nl⟩:=D.n0)) | (go_at_call 146; (with_reducible refine (G3.out _ _ _ ?_ ?_ ?_).mono ?_); (· (first | (with_reducible refine isD_n (D.getN ?_); (repeat (first | (with_reducible exact mS) | apply mT))) | (with_reducible refine isD_n ((D.boxD false none 0 0 0).getN ?_); (repeat (first | (with_reducible exact mS) | apply mT))) | (with_reducible refine isD_n ((D0.boxD false none 0 0 0).drew.getN ?_); (repeat (first | (with_reducible exact mS) | apply mT))))); (· (first | (with_reducible refine isD_n (D.getN ?_); (repeat (first | (with_reducible exact mS) | apply mT))) | (with_reducible refine isD_n ((D.boxD false none 0 0 0).getN ?_); (repeat (first | (with_reducible exact mS) | apply mT))) | (with_reducible refine isD_n ((D0.boxD false none 0 0 0).drew.getN ?_); (repeat (first | (with_reducible exact mS) | apply mT))))); (· (first | (with_reducible exact HVW.out _ D.lq.below) | (with_reducible exact HVW.out _ (D.boxD false none 0 0 0).lq.below) | (with_reducible exact HVW.out _ (D0.boxD false none 0 0 0).drew.lq.below))); rintro e9 wh ⟨vh, rfl, id, be⟩; obtain ⟨A8, c8, rfl, _, in9⟩:=id.form; (first | (replace D:=D.step be) | (replace D:=(D.boxMD hmd false none 0 0 0).step be) | (replace D:=(D.boxD false none 0 0 0).step be)); have hz:=be.size; (try simp at hz); replace D:=D.n in9; (try (obtain ⟨x00,x01,x02⟩:=D.lq.b0.a3; obtain ⟨y00,y01,y02⟩:=D.lq.b0.f3)); (try obtain ⟨na, nb, nc, nd, nl⟩:=D.n0)))
     all_goals
      go_wp2_with fail
      go_meet
      first
      | ((with_reducible refine made1d_a D ?_) <;> (repeat (first | (with_reducible exact mS) | apply mT)))
      | ((with_reducible refine made1d_b D ?_) <;> (repeat (first | (with_reducible exact mS) | apply mT)))
    case rest =>
     obtain ⟨gn, A9, c9, rfl, hg9, bw, hb9, q1⟩:=hcut
     have L:=((LL.out.step bw).n q1).b hb9
     have hl_gn:=hg9
     clear D D0 hmd LL hb9 q1 bw hg9 HVW Q0 Q1 Q2 hc0
     generalize wc = wd41 at *
     obtain ⟨cel00,cel01,cel02⟩:=L.b0.a3
     (try go_wp2_with fail)
     refine (G5.out _ _ (isD_n (m:=Mt) (e:=Et) (s:=.slice A9 (zl Mt) c9) (L.getN (by simp)))).mono ?_
     rintro e w43 ⟨v9, rfl, iz, be⟩
     clear cel00 cel01 cel02
     obtain ⟨A5, c5, rfl, _, in9⟩:=iz.form
     replace L:=(L.step be).n in9
     clear be iz in9
     obtain ⟨cel00,cel01,cel02⟩:=L.b0.a3
     obtain ⟨f00,f01,f02⟩:=L.b0.f3
     have P:=L.putD (by omega) (by first | (simp; done) | (simp; omega)) (ng (-Mt)) A5 (zl (-Mt)) c5 Et
     obtain ⟨p00,p01,p02⟩:=P.b0.a3
     obtain ⟨p20,p21,p22⟩:=P.tl.tl.b0.a3
     unfold put3 at p00 p01 p02 p20 p21 p22 P
     go_wp2_with fail
     replace L:=P
     clear P p00 p01 p02 p20 p21 p22
     clear cel00 f00 cel01 f01 cel02 f02
     obtain ⟨Mn, hMn⟩:=nm9 (-Mt)
     rw [hMn] at L G6 ⊢
     clear hMn
     refine (G6.out _ _ _ (isD_n (m:=MT) (e:=ET) (s:=.slice C (zl MT) d2) (L.getN (by simp))) (isD_n (m:=Mn) (e:=Et) (s:=.slice A5 (zl Mn) c5) (L.getN (by simp))) L.below).mono ?_
     rintro e w44 ⟨v9, rfl, iz, be⟩
     obtain ⟨C5, d5, rfl, _, in9⟩:=iz.form
     replace L:=(L.step be).n in9
     clear be iz in9
     have L9:=L.subx (ns':=[(.slice B (zl MP) d, MP.natAbs), (.slice C5 (zl MT2) d5, MT2.natAbs), (.slice A1 (zl MQ) c1, MQ.natAbs)]) (bs':=[(gq + 1, 26, #[.bool (ng MT), .slice C (zl MT) d2, .int .i64 ET]), (gq + 2, 26, #[.bool (ng MP), .slice B (zl MP) d, .int .i64 EP]), (gq, 26, #[.bool (ng MQ), .slice A1 (zl MQ) c1, .int .i64 EQ]), (w.heap.size + 1, 26, #[.bool false, .slice none 0 0, .int .i64 0])]) (by simp) (by simp)
     clear L
     have L:=L9
     clear L9
     obtain ⟨cel00,cel01,cel02⟩:=L.b0.a3
     obtain ⟨f00,f01,f02⟩:=L.b0.f3
     have P:=L.putD (by omega) (by first | (simp; done) | (simp; omega)) (ng MT2) C5 (zl MT2) d5 ET2
     obtain ⟨p10,p11,p12⟩:=P.tl.b0.a3
     obtain ⟨p20,p21,p22⟩:=P.tl.tl.b0.a3
     unfold put3 at p10 p11 p12 p20 p21 p22 P
     go_wp2_with fail
     replace L:=P
     clear P p10 p11 p12 p20 p21 p22
     clear cel00 f00 cel01 f01 cel02 f02
     refine (G7.out _ _ _ (isD_n (m:=MP) (e:=EP) (s:=.slice B (zl MP) d) (L.getN (by simp))) (isD_n (m:=MQ) (e:=EQ) (s:=.slice A1 (zl MQ) c1) (L.getN (by simp))) L.below).mono ?_
     rintro e w45 ⟨v9, rfl, iz, be⟩
     obtain ⟨B5, d6, rfl, _, in9⟩:=iz.form
     replace L:=(L.step be).n in9
     clear be iz in9
     replace L:=L.swap
     obtain ⟨cel00,cel01,cel02⟩:=L.b0.a3
     obtain ⟨f00,f01,f02⟩:=L.b0.f3
     replace L:=L.putD (by omega) (by first | (simp; done) | (simp; omega)) (ng MP2) B5 (zl MP2) d6 EP2
     unfold put3 at L
     go_wp2_with fail
     go_roundw
     case rel => exact ⟨j + 1, MP2, EP2, MT2, ET2, B5, C5, d6, d5, by go_num, L.subx (by simp) (by simp), HJ2⟩
     case measure =>
      obtain ⟨hj60, hN⟩:=HM.out
      simp [intOf]
      omega
   ·rw [he] at es hev
    have hm : N.tmod 4 = 1:=by
     have:=of_decide_eq_true hev.symm
     rw [Int.tmod_eq_emod_of_nonneg (by omega)]
     omega
    have es2 : smA Q X p (j + 1) = smA Q X p j + T:=by rw [es]; rfl
    have g5:=fun v W h => dneg_any (mkM T (-(p : Int))) (mkE T (-(p : Int))) v W h (by omega)
    have zn:=zl_neg (mkM T (-(p : Int)))
    have g6:=fun x y W h i (hW : Below w.heap.size w W) => dadd_any MT ET (mkM T (-(p : Int))) (mkE T (-(p : Int))) x y W h i (by omega) (by omega) (by omega) (by omega) (HT.out W hW)
    have nxs:=nx_add (x := -(p : Int)) aT aTt (by omega) (by omega)
    rw [hmt, het] at nxs
    obtain ⟨y1, y2, y3⟩:=nxs
    rw [y1, y2, y3, ← es2] at g6
    have HJ2:=Hd9 (show SeA X Q p (j + 1) (mkM (pwA Q X p (j + 1)) (-(p : Int))) (mkE (pwA Q X p (j + 1)) (-(p : Int))) (mkM (smA Q X p (j + 1)) (-(p : Int))) (mkE (smA Q X p (j + 1)) (-(p : Int))) from ⟨Or.inr (by omega), rfl, rfl, rfl, rfl⟩)
    have G2:=Hd9 g2
    have G3:=Hd9 g3
    have G5:=Hd9 g5
    have G6:=Hd9 g6
    have G7:=Hd9 g7
    have HM:=Hd9 (And.intro hj60 hN)
    clear g2 g3 g5 g6 g7 gs hz hc hsg hX hp hb hmp hep hmt het hj60 pn pl xl aP uP aT t1 t2 t3 t4 t5 s1 s2 s3 s4 s5 HJ hpz hj2 hk aN o1 o2 o3 o4 o5 hT9 hT0 hT1 aTt n1 r1 r2 r3 r4 r5 q2 q3 q5 evc es hev es2 zn y1 y2 y3 he HQ
    rw [hN]
    obtain ⟨MP2, hMP2⟩:=nm9 (mkM (pwA Q X p (j + 1)) (-(p : Int)))
    rw [hMP2] at G7 HJ2
    clear hMP2
    obtain ⟨EP2, hEP2⟩:=nm9 (mkE (pwA Q X p (j + 1)) (-(p : Int)))
    rw [hEP2] at G7 HJ2
    clear hEP2
    obtain ⟨MT2, hMT2⟩:=nm9 (mkM (smA Q X p (j + 1)) (-(p : Int)))
    rw [hMT2] at G6 HJ2
    clear hMT2
    obtain ⟨ET2, hET2⟩:=nm9 (mkE (smA Q X p (j + 1)) (-(p : Int)))
    rw [hET2] at G6 HJ2
    clear hET2
    obtain ⟨Mt, hMt⟩:=nm9 (mkM T (-(p : Int)))
    rw [hMt] at G3 G5 G6
    clear hMt
    obtain ⟨Et, hEt⟩:=nm9 (mkE T (-(p : Int)))
    rw [hEt] at G3 G5 G6
    clear hEt
    obtain ⟨Mo, hMo⟩:=nm9 (mkM N 0)
    rw [hMo] at G2 G3
    clear hMo
    obtain ⟨Eo, hEo⟩:=nm9 (mkE N 0)
    rw [hEo] at G2 G3
    clear hEo
    obtain ⟨cel00,cel01,cel02⟩:=L.b0.a3
    (try go_wp2_with fail)
    refine (GS.out _ _ (isD_n (m:=MP) (e:=EP) (s:=.slice B (zl MP) d) (L.getN (by simp)))).mono ?_
    rintro e w41 ⟨rfl, be⟩
    clear cel00 cel01 cel02
    replace L:=L.step be
    clear be
    have hl_gp:=L.b0.lt
    (try go_wp2_with fail)
    obtain ⟨V, hV, L9⟩:=L.name
    rw [hV]
    clear hV L
    have L:=L9
    clear L9
    have Q0:=Hd9 (fun Z (hZ : Below V.heap.size V Z) => (L.b0.mono hZ).c30)
    have Q1:=Hd9 (fun Z (hZ : Below V.heap.size V Z) => (L.b0.mono hZ).c31)
    have Q2:=Hd9 (fun Z (hZ : Below V.heap.size V Z) => (L.b0.mono hZ).c32)
    have hb0:=L.b0.lt
    have D0 : Dq V V [(.slice B (zl MP) d, (MP : Int).natAbs)] [] [] []:=⟨((Lq.mk0 V).n (L.getN (v:=.slice B (zl MP) d) (x:=(MP : Int).natAbs) (by simp))), List.nodup_nil, fun p hp => by cases hp⟩
    have D:=D0.drew
    have hVw:=L.below.size
    have HVW:=Hd9 (fun Z (hZ : Below V.heap.size V Z) => L.below.trans (hZ.mono hVw))
    have LL:=Hd9 L
    clear L
    obtain ⟨K, hK⟩:=nm9 (V.heap.size)
    have hz0 : K ≤ V.heap.size:=by omega
    have hmd : V.drew.heap.size = K:=hK
    have hc0 : gq + 2 < K:=by omega
    go_cut [9] from 21 to 25 (fun s0 wx => Made1D V Mt Et s0 wx)
    case first =>
     go_region_held3 (fun w' => w'.cell? ⟨gq + 2, 0, none⟩ = some (.bool (ng MP)) ∧ w'.cell? ⟨gq + 2, 1, none⟩ = some (.slice B (zl MP) d) ∧ w'.cell? ⟨gq + 2, 2, none⟩ = some (.int .i64 EP)) (((try dsimp only); refine ⟨?_, ?_, ?_⟩ <;> (repeat (first | (with_reducible exact Q0.out _ D.lq.below) | (with_reducible exact Q0.out _ D0.lq.below) | (with_reducible exact Q1.out _ D.lq.below) | (with_reducible exact Q1.out _ D0.lq.below) | (with_reducible exact Q2.out _ D.lq.below) | (with_reducible exact Q2.out _ D0.lq.below) | (with_reducible refine c_alloc _ ?_) | (with_reducible refine c_drew ?_) | (with_reducible refine c_set ?_ (by assumption) ?_) | omega)))) (first | (go_at_call 92; (with_reducible refine (G2.out _ ?_).mono ?_); (· (first | (with_reducible exact HVW.out _ D.lq.below) | (with_reducible exact HVW.out _ (D.boxD false none 0 0 0).lq.below) | (with_reducible exact HVW.out _ (D0.boxD false none 0 0 0).drew.lq.below))); rintro e9 wh ⟨vh, rfl, id, be⟩; obtain ⟨A7, c7, rfl, _, in9⟩:=id.form; (first | (replace D:=D.step be) | (replace D:=(D.boxMD hmd false none 0 0 0).step be) | (replace D:=(D.boxD false none 0 0 0).step be)); have hz:=be.size; (try simp at hz); replace D:=D.n in9; (try (obtain ⟨x00,x01,x02⟩:=D.lq.b0.a3; obtain ⟨y00,y01,y02⟩:=D.lq.b0.f3)); (try obtain ⟨na, nb, nc, nd, nl⟩:=D.n0)) | (go_at_call 146; (with_reducible refine (G3.out _ _ _ ?_ ?_ ?_).mono ?_); (· (first | (with_reducible refine isD_n (D.getN ?_); (repeat (first | (with_reducible exact mS) | apply mT))) | (with_reducible refine isD_n ((D.boxD false none 0 0 0).getN ?_); (repeat (first | (with_reducible exact mS) | apply mT))) | (with_reducible refine isD_n ((D0.boxD false none 0 0 0).drew.getN ?_); (repeat (first | (with_reducible exact mS) | apply mT))))); (· (first | (with_reducible refine isD_n (D.getN ?_); (repeat (first | (with_reducible exact mS) | apply mT))) | (with_reducible refine isD_n ((D.boxD false none 0 0 0).getN ?_); (repeat (first | (with_reducible exact mS) | apply mT))) | (with_reducible refine isD_n ((D0.boxD false none 0 0 0).drew.getN ?_); (repeat (first | (with_reducible exact mS) | apply mT))))); (· (first | (with_reducible exact HVW.out _ D.lq.below) | (with_reducible exact HVW.out _ (D.boxD false none 0 0 0).lq.below) | (with_reducible exact HVW.out _ (D0.boxD false none 0 0 0).drew.lq.below))); rintro e9 wh ⟨vh, rfl, id, be⟩; obtain ⟨A8, c8, rfl, _, in9⟩:=id.form; (first | (replace D:=D.step be) | (replace D:=(D.boxMD hmd false none 0 0 0).step be) | (replace D:=(D.boxD false none 0 0 0).step be)); have hz:=be.size; (try simp at hz); replace D:=D.n in9; (try (obtain ⟨x00,x01,x02⟩:=D.lq.b0.a3; obtain ⟨y00,y01,y02⟩:=D.lq.b0.f3)); (try obtain ⟨na, nb, nc, nd, nl⟩:=D.n0)))
     all_goals
      go_wp2_with fail
      go_meet
      first
      | ((with_reducible refine made1d_a D ?_) <;> (repeat (first | (with_reducible exact mS) | apply mT)))
      | ((with_reducible refine made1d_b D ?_) <;> (repeat (first | (with_reducible exact mS) | apply mT)))
    case rest =>
     obtain ⟨gn, A9, c9, rfl, hg9, bw, hb9, q1⟩:=hcut
     have L:=((LL.out.step bw).n q1).b hb9
     have hl_gn:=hg9
     clear D D0 hmd LL hb9 q1 bw hg9 HVW Q0 Q1 Q2 hc0
     generalize wc = wd41 at *
     obtain ⟨cel00,cel01,cel02⟩:=L.b0.a3
     obtain ⟨cel20,cel21,cel22⟩:=L.tl.tl.b0.a3
     (try go_wp2_with fail)
     refine (G6.out _ _ _ (isD_n (m:=MT) (e:=ET) (s:=.slice C (zl MT) d2) (L.getN (by simp))) (isD_n (m:=Mt) (e:=Et) (s:=.slice A9 (zl Mt) c9) (L.getN (by simp))) L.below).mono ?_
     rintro e w43 ⟨v9, rfl, iz, be⟩
     clear cel00 cel01 cel02 cel20 cel21 cel22
     obtain ⟨C5, d5, rfl, _, in9⟩:=iz.form
     replace L:=(L.step be).n in9
     clear be iz in9
     have L9:=L.subx (ns':=[(.slice B (zl MP) d, MP.natAbs), (.slice C5 (zl MT2) d5, MT2.natAbs), (.slice A1 (zl MQ) c1, MQ.natAbs)]) (bs':=[(gq + 1, 26, #[.bool (ng MT), .slice C (zl MT) d2, .int .i64 ET]), (gq + 2, 26, #[.bool (ng MP), .slice B (zl MP) d, .int .i64 EP]), (gq, 26, #[.bool (ng MQ), .slice A1 (zl MQ) c1, .int .i64 EQ]), (w.heap.size + 1, 26, #[.bool false, .slice none 0 0, .int .i64 0])]) (by simp) (by simp)
     clear L
     have L:=L9
     clear L9
     obtain ⟨cel00,cel01,cel02⟩:=L.b0.a3
     obtain ⟨f00,f01,f02⟩:=L.b0.f3
     have P:=L.putD (by omega) (by first | (simp; done) | (simp; omega)) (ng MT2) C5 (zl MT2) d5 ET2
     obtain ⟨p10,p11,p12⟩:=P.tl.b0.a3
     obtain ⟨p20,p21,p22⟩:=P.tl.tl.b0.a3
     unfold put3 at p10 p11 p12 p20 p21 p22 P
     go_wp2_with fail
     replace L:=P
     clear P p10 p11 p12 p20 p21 p22
     clear cel00 f00 cel01 f01 cel02 f02
     refine (G7.out _ _ _ (isD_n (m:=MP) (e:=EP) (s:=.slice B (zl MP) d) (L.getN (by simp))) (isD_n (m:=MQ) (e:=EQ) (s:=.slice A1 (zl MQ) c1) (L.getN (by simp))) L.below).mono ?_
     rintro e w44 ⟨v9, rfl, iz, be⟩
     obtain ⟨B5, d6, rfl, _, in9⟩:=iz.form
     replace L:=(L.step be).n in9
     clear be iz in9
     replace L:=L.swap
     obtain ⟨cel00,cel01,cel02⟩:=L.b0.a3
     obtain ⟨f00,f01,f02⟩:=L.b0.f3
     replace L:=L.putD (by omega) (by first | (simp; done) | (simp; omega)) (ng MP2) B5 (zl MP2) d6 EP2
     unfold put3 at L
     go_wp2_with fail
     go_roundw
     case rel => exact ⟨j + 1, MP2, EP2, MT2, ET2, B5, C5, d6, d5, by go_num, L.subx (by simp) (by simp), HJ2⟩
     case measure =>
      obtain ⟨hj60, hN⟩:=HM.out
      simp [intOf]
      omega

theorem nx_shl {s : Int} {p j k : Nat} (h : AbP s j) (hj : j ≤ 2000) (hk : k ≤ 100) (hp : p ≤ 2000) : mkR (mkM s (-(p : Int))) (mkE s (-(p : Int)) + (k : Int)) = 0 ∧ mkM (mkM s (-(p : Int))) (mkE s (-(p : Int)) + (k : Int)) = mkM (s * 2 ^ k) (-(p : Int)) ∧ mkE (mkM s (-(p : Int))) (mkE s (-(p : Int)) + (k : Int)) = mkE (s * 2 ^ k) (-(p : Int)):=by
 obtain ⟨a1, a2, a3, a4, a5⟩:=nx (x := -(p : Int)) h (by omega) (by omega)
 have hr : mkR (mkM s (-(p : Int))) (mkE s (-(p : Int)) + (k : Int)) = 0:=mk_fits9 (by omega) (by omega) (by omega)
 have hs : AbP (s * 2 ^ k) (j + k):=AbP.mul h (by unfold AbP; rw [Int.natAbs_pow]; exact Nat.le_refl _)
 obtain ⟨b1, _⟩:=nx (x := -(p : Int)) hs (by omega) (by omega)
 refine ⟨hr, mk_uniq hr b1 ?_⟩
 have e1:=dq_mul (mkM s (-(p : Int))) (mkE s (-(p : Int))) 1 (k : Int)
 rw [Int.mul_one, a5] at e1
 have e2 : dq (s * 2 ^ k) (-(p : Int)) = dq s (-(p : Int)) * dq 1 (k : Int):=by
  have:=dq_mul s (-(p : Int)) 1 (k : Int)
  rw [Int.mul_one] at this
  rw [← this]
  refine dq_eq (F := -(p : Int)) ?_ (by omega) (by omega)
  rw [show (-(p : Int) - -(p : Int)).toNat = 0 by omega, show (-(p : Int) + (k : Int) - -(p : Int)).toNat = k by omega]
  simp
 rw [e1, e2]
structure AnJ (p : Nat) (C0 : Int) (j : Nat) (C MC EC : Int) : Prop where
 hv : HvI p C0 j C
 k : j ≤ 11
 ab : AbP C (p + 30)
 m : mkM C (-(p : Int)) = MC
 e : mkE C (-(p : Int)) = EC
def RetAg (w : World) (p : Nat) (C0 : Int) (en : Ending) (w' : World) : Prop:=∃ Z, AgI p C0 Z ∧ AbP Z (p + 20) ∧ RetD8 w (mkM Z (-(p : Int))) (mkE Z (-(p : Int))) en w'
theorem ten_dq (p : Nat) : dq (1024 * 2 ^ p) (-(p : Int)) = dq 1 10:=by
 rw [dq_scale, Rat.intCast_mul, Rat.mul_assoc, two_cast, Rat.mul_one]
 decide +kernel
theorem last_x {p : Nat} {C : Int} (hC : 1024 * 2 ^ p ≤ C) : ∃ X, cutQ (1 / dq C (-(p : Int))) (p : Int) = X ∧ SmX X (X * X / 2 ^ p) p ∧ dq X (-(p : Int)) * dq C (-(p : Int)) ≤ 1 ∧ 1 ≤ (dq X (-(p : Int)) + dq 1 (-(p : Int))) * dq C (-(p : Int)) ∧ AbP X p:=by
 have hc : 1024 ≤ dq C (-(p : Int)):=by
  have:=(dq_le_iff _ _ (-(p : Int))).2 hC
  rw [ten_dq] at this
  exact this
 obtain ⟨_, b2, _, b4, b5, b6⟩:=rec_bd (x:=dq C (-(p : Int))) (p:=p) (b:=0) (k:=p) (by grind) rfl
 refine ⟨_, rfl, ⟨b6, ?_, rfl⟩, b4, b5, b2⟩
 refine (dq_le_iff _ _ (-(p : Int))).1 ?_
 generalize cutQ (1 / dq C (-(p : Int))) (p : Int) = X at *
 have x0 : 0 ≤ dq X (-(p : Int)):=by have:=(dq_le_iff 0 X (-(p : Int))).2 b6; rwa [dq_zero] at this
 have m:=Rat.mul_le_mul_of_nonneg_left hc x0
 have e : dq (X * 1024) (-(p : Int)) = dq X (-(p : Int)) * 1024:=by
  rw [dq_scale, dq_scale X, Rat.intCast_mul]
  have : ((1024 : Int) : Rat) = 1024:=rfl
  rw [this]
  grind
 rw [e, dq_scale (2 ^ p), two_cast]
 grind
theorem hv_ab {p : Nat} {C S : Int} (h0 : 0 ≤ C) (hC : C < 1024 * 2 ^ p) (hS : SqI C S p) : AbP (C + S) (p + 30):=by
 obtain ⟨b1, b2, b3⟩:=hS.big h0
 have s0:=hS.nn
 have e : (2 : Nat) ^ (p + 30) = 2 ^ p * 1073741824:=by rw [Nat.pow_add]
 have ep : ((2 ^ p : Nat) : Int) = 2 ^ p:=by push_cast; rfl
 have pp : 0 < (2 : Nat) ^ p:=Nat.pow_pos (by omega)
 unfold AbP
 rw [e]
 generalize (2 : Nat) ^ p = P at *
 rw [← ep] at b2 b3 hC
 omega

theorem tangle_any (C0 : Int) (p : Nat) (vx : Value) (w : World) (hx : IsD w vx (mkM C0 (-(p : Int))) (mkE C0 (-(p : Int)))) (h0 : 0 ≤ C0) (hC : AbP C0 (p + 30)) (hp : p ≤ 700) (hT : Tab w) :
  Calls Tryz.prog 91 #[vx, .int .i64 (p : Int)] w (RetAg w p C0):=by
 obtain ⟨A, c, rfl, _, hn⟩:=hx.form
 have L0:=(Lq.mk0 w).n hn
 have HT:=Hd9 (fun W (hW : Below w.heap.size w W) => hT.mono hW)
 have HP:=Hd9 hp
 have HJ0:=Hd9 (show AnJ p C0 0 C0 (mkM C0 (-(p : Int))) (mkE C0 (-(p : Int))) from ⟨HvI.first h0, by omega, hC, rfl, rfl⟩)
 have hpm : permB (-10) = true:=by decide
 obtain ⟨y1, y2, y3⟩:=g_yes hpm 1
 have g1:=fun W (hW : Below w.heap.size w W) => gunit_any (-10) W (by omega) (by omega) (hT.mono hW)
 rw [y1, y2, y3, show -(-10 : Int) = 10 from rfl] at g1
 have l1 : AbP 1 0:=by unfold AbP; decide
 obtain ⟨u1, u2, u3, u4, u5⟩:=nx (x:=10) l1 (by omega) (by omega)
 rw [u1] at g1
 obtain ⟨M0, hM0⟩:=nm9 (mkM C0 (-(p : Int)))
 obtain ⟨E0, hE0⟩:=nm9 (mkE C0 (-(p : Int)))
 rw [hM0] at L0 HJ0 ⊢
 rw [hE0] at HJ0 ⊢
 obtain ⟨ML, hML⟩:=nm9 (mkM 1 10)
 obtain ⟨EL, hEL⟩:=nm9 (mkE 1 10)
 rw [hML] at g1 u2 u5
 rw [hEL] at g1 u3 u5
 have HL:=Hd9 (And.intro u2 (And.intro u3 u5))
 have G1:=Hd9 g1
 clear g1 y1 y2 y3 hpm l1 u1 u2 u3 u4 u5 hM0 hE0 hML hEL h0 hC hp hT hx hn
 go_enter Tryz.func91, Tryz.ntmps91
 have L:=((L0.varD (w.heap.size) (by simp) (ng M0) A (zl M0) c E0).varD (w.heap.size + 1) (by simp) false none 0 0 0)
 obtain ⟨c10,c11,c12⟩:=L.tl.b0.a3
 (try go_wp2_with fail)
 refine (G1.out _ L.below).mono ?_
 rintro e w1 ⟨v9, rfl, iz, be⟩
 clear c10 c11 c12
 obtain ⟨A1, c1, rfl, _, in9⟩:=iz.form
 replace L:=(L.step be).n in9
 clear be iz in9
 have hl9:=L.b0.lt
 replace L:=L.varD w1.heap.size rfl (ng ML) A1 (zl ML) c1 EL
 obtain ⟨c00,c01,c02⟩:=L.b0.a3
 (try go_wp2_with fail)
 clear c00 c01 c02
 obtain ⟨gl, hgl⟩:=nm9 (w1.heap.size)
 rw [hgl] at L hl9 ⊢
 clear hgl
 have hl_gl:=hl9
 clear hl9
 clear G1
 have hgl : w.heap.size + 1 < gl:=by omega
 go_loopw [7] (fun i wr => ∃ (j : Nat) (C MC EC : Int) (B : Option Addr) (d : Nat), i = .int .i64 (j : Int) ∧ Lq w wr [(.slice B (zl MC) d, MC.natAbs), (.slice A1 (zl ML) c1, ML.natAbs)] [] [] [(w.heap.size, 26, #[.bool (ng MC), .slice B (zl MC) d, .int .i64 EC]), (gl, 26, #[.bool (ng ML), .slice A1 (zl ML) c1, .int .i64 EL]), (w.heap.size + 1, 26, #[.bool false, .slice none 0 0, .int .i64 0])] ∧ Hid (AnJ p C0 j C MC EC)) (fun i _ => (20 - intOf i).toNat)
 case atStart => exact ⟨0, C0, M0, E0, A, c, by go_num, L.subx (by simp) (by simp), HJ0⟩
 case round =>
  clear L HJ0
  obtain ⟨j, C, MC, EC, B, d, rfl, L, HJ⟩:=hrel
  have hJ:=HJ.out
  have hp:=HP.out
  have hjk:=hJ.k
  obtain ⟨t1, t2, t3, t4, t5⟩:=nx (x := -(p : Int)) hJ.ab (by omega) (by omega)
  rw [hJ.m] at t2 t4 t5
  rw [hJ.e] at t3 t4 t5
  obtain ⟨l2, l3, l5⟩:=HL.out
  have g2:=fun v u W h k => dcmp_any MC EC ML EL v u W h k (by omega) (by omega) (by omega) (by omega)
  obtain ⟨sg, hsg⟩:=nm9 (dcm MC EC ML EL)
  have hc:=dcm_lt MC EC ML EL
  rw [show cmpI (MC * 2 ^ (EC - min EC EL).toNat) (ML * 2 ^ (EL - min EC EL).toNat) = dcm MC EC ML EL from rfl, hsg] at g2
  rw [hsg, t5, l5, ← ten_dq p, ← Rat.not_le, dq_le_iff, Int.not_le] at hc
  have G2:=Hd9 g2
  have hl0:=L.b0.lt
  clear g2 hsg l2 l3 l5
  by_cases hz0 : sg < 0
  ·have hlt:=hc.1 hz0
   have hj10:=hJ.hv.le hlt
   obtain ⟨S, hS⟩:=nm9 (sqR (dq C (-(p : Int)) * dq C (-(p : Int)) + 1) (p : Int))
   have hSI:=sqi C p
   rw [hS] at hSI
   have g3:=fun v W h (hW : Below w.heap.size w W) => thalf_any C S p v W h hJ.hv.nn hJ.ab hS (by omega) (HT.out W hW)
   rw [hJ.m, hJ.e] at g3
   have HJ2:=Hd9 (show AnJ p C0 (j + 1) (C + S) (mkM (C + S) (-(p : Int))) (mkE (C + S) (-(p : Int))) from ⟨hJ.hv.step hSI, by omega, hv_ab hJ.hv.nn hlt hSI, rfl, rfl⟩)
   obtain ⟨M2, hM2⟩:=nm9 (mkM (C + S) (-(p : Int)))
   obtain ⟨E2, hE2⟩:=nm9 (mkE (C + S) (-(p : Int)))
   rw [hM2, hE2] at g3 HJ2
   have G3:=Hd9 g3
   have w1 : IntKind.i64.wrap ((j : Int) + 1) = (j : Int) + 1:=by rw [IntKind.wrap_i64]; omega
   have d1 : decide (sg < 0) = true:=decide_eq_true hz0
   clear g3 hM2 hE2 hS hSI hlt hc t1 t2 t3 t4 t5 hJ hp
   obtain ⟨cel00,cel01,cel02⟩:=L.b0.a3
   obtain ⟨cel10,cel11,cel12⟩:=L.tl.b0.a3
   (try go_wp2_with fail)
   refine (G2.out _ _ _ (isD_n (m:=MC) (e:=EC) (s:=.slice B (zl MC) d) (L.getN (by simp))) (isD_n (m:=ML) (e:=EL) (s:=.slice A1 (zl ML) c1) (L.getN (by simp)))).mono ?_
   rintro e w41 ⟨rfl, be⟩
   clear cel00 cel01 cel02 cel10 cel11 cel12
   replace L:=L.step be
   clear be
   obtain ⟨cel00,cel01,cel02⟩:=L.b0.a3
   (try go_wp2_with fail)
   refine (G3.out _ _ (isD_n (m:=MC) (e:=EC) (s:=.slice B (zl MC) d) (L.getN (by simp))) L.below).mono ?_
   rintro e w42 ⟨v9, rfl, iz, be⟩
   clear cel00 cel01 cel02
   obtain ⟨B5, d5, rfl, _, in9⟩:=iz.form
   replace L:=(L.step be).n in9
   clear be iz in9
   obtain ⟨cel00,cel01,cel02⟩:=L.b0.a3
   obtain ⟨f00,f01,f02⟩:=L.b0.f3
   have P:=L.putD (by omega) (by first | (simp; done) | (simp; omega)) (ng M2) B5 (zl M2) d5 E2
   unfold put3 at  P
   go_wp2_with fail
   replace L:=P
   clear P 
   clear cel00 f00 cel01 f01 cel02 f02
   go_roundw
   case rel => exact ⟨j + 1, C + S, M2, E2, B5, d5, by go_num, L.subx (by simp) (by simp), HJ2⟩
   case measure => simp [intOf]; omega
  ·have hge : 1024 * 2 ^ p ≤ C:=by
    refine Int.not_lt.1 fun h => hz0 (hc.2 h)
   obtain ⟨X, hX, hSX, x1, x2, aX⟩:=last_x hge
   have d1 : decide (sg < 0) = false:=decide_eq_false hz0
   have l1 : AbP 1 0:=by unfold AbP; decide
   obtain ⟨u1, u2, u3, u4, u5⟩:=nx (x:=0) l1 (by omega) (by omega)
   have one : dq 1 0 = 1:=by decide +kernel
   have g3:=fun W (hW : Below w.heap.size w W) => dof_any 1 W (by omega) (by omega) (HT.out W hW)
   have hc9 : 1024 ≤ dq C (-(p : Int)):=by
    have:=(dq_le_iff _ _ (-(p : Int))).2 hge
    rw [ten_dq] at this
    exact this
   have g4:=fun x y W h i (hW : Below w.heap.size w W) => tquot_any (mkM 1 0) (mkE 1 0) MC EC X p x y W h i u4 t4 (by omega) (by omega) (by omega) (by omega) (by rw [u5, one]; decide) (by rw [u5, one]; exact Rat.le_refl) (by rw [t5]; grind) (by rw [u5, one, t5]; exact hX) (by omega) (HT.out W hW)
   have g5:=fun x W h (hW : Below w.heap.size w W) => tser_any X (X * X / 2 ^ p) p x W h hSX (by omega) (HT.out W hW)
   have HE:=Hd9 (fun n (hn : pwA (X * X / 2 ^ p) X p n = 0) (h6 : n ≤ 60) => ang_end hJ.hv hJ.k hge hSX x1 x2 hn (by omega))
   have HS:=Hd9 (And.intro hSX (And.intro hp hjk))
   obtain ⟨XM, hXM⟩:=nm9 (mkM X (-(p : Int)))
   obtain ⟨XE, hXE⟩:=nm9 (mkE X (-(p : Int)))
   rw [hXM, hXE] at g4 g5
   obtain ⟨M1, hM1⟩:=nm9 (mkM 1 0)
   obtain ⟨E1, hE1⟩:=nm9 (mkE 1 0)
   rw [hM1, hE1] at g3 g4
   have G3:=Hd9 g3
   have G4:=Hd9 g4
   have G5:=Hd9 g5
   clear g3 g4 g5 hXM hXE hM1 hE1 hX hSX x1 x2 aX l1 u1 u2 u3 u4 u5 one hc9 hge hc t1 t2 t3 t4 t5 hJ hp
   obtain ⟨cel00,cel01,cel02⟩:=L.b0.a3
   obtain ⟨cel10,cel11,cel12⟩:=L.tl.b0.a3
   (try go_wp2_with fail)
   refine (G2.out _ _ _ (isD_n (m:=MC) (e:=EC) (s:=.slice B (zl MC) d) (L.getN (by simp))) (isD_n (m:=ML) (e:=EL) (s:=.slice A1 (zl ML) c1) (L.getN (by simp)))).mono ?_
   rintro e w41 ⟨rfl, be⟩
   clear cel00 cel01 cel02 cel10 cel11 cel12
   replace L:=L.step be
   clear be
   (try go_wp2_with fail)
   obtain ⟨V, hV, L9⟩:=L.name
   rw [hV]
   clear hV L
   have L:=L9
   clear L9
   have Q0:=Hd9 (fun Z (hZ : Below V.heap.size V Z) => (L.b0.mono hZ).c30)
   have Q1:=Hd9 (fun Z (hZ : Below V.heap.size V Z) => (L.b0.mono hZ).c31)
   have Q2:=Hd9 (fun Z (hZ : Below V.heap.size V Z) => (L.b0.mono hZ).c32)
   have hb0:=L.b0.lt
   have D0 : Dq V V [(.slice B (zl MC) d, (MC : Int).natAbs)] [] [] []:=⟨((Lq.mk0 V).n (L.getN (v:=.slice B (zl MC) d) (x:=(MC : Int).natAbs) (by simp))), List.nodup_nil, fun p hp => by cases hp⟩
   have D:=D0.drew
   have hVw:=L.below.size
   have HVW:=Hd9 (fun Z (hZ : Below V.heap.size V Z) => L.below.trans (hZ.mono hVw))
   have LL:=Hd9 L
   clear L
   obtain ⟨K, hK⟩:=nm9 (V.heap.size)
   have hz0 : K ≤ V.heap.size:=by omega
   have hmd : V.drew.heap.size = K:=hK
   have hc0 : w.heap.size < K:=by omega
   go_cut [8] from 24 to 27 (fun s0 wx => Made1D V XM XE s0 wx)
   case first =>
    go_region_held3 (fun w' => w'.cell? ⟨w.heap.size, 0, none⟩ = some (.bool (ng MC)) ∧ w'.cell? ⟨w.heap.size, 1, none⟩ = some (.slice B (zl MC) d) ∧ w'.cell? ⟨w.heap.size, 2, none⟩ = some (.int .i64 EC)) (((try dsimp only); refine ⟨?_, ?_, ?_⟩ <;> (repeat (first | (with_reducible exact Q0.out _ D.lq.below) | (with_reducible exact Q0.out _ D0.lq.below) | (with_reducible exact Q1.out _ D.lq.below) | (with_reducible exact Q1.out _ D0.lq.below) | (with_reducible exact Q2.out _ D.lq.below) | (with_reducible exact Q2.out _ D0.lq.below) | (with_reducible refine c_alloc _ ?_) | (with_reducible refine c_drew ?_) | (with_reducible refine c_set ?_ (by assumption) ?_) | omega)))) (first | (go_at_call 92; (with_reducible refine (G3.out _ ?_).mono ?_); (· (first | (with_reducible exact HVW.out _ D.lq.below) | (with_reducible exact HVW.out _ (D.boxD false none 0 0 0).lq.below) | (with_reducible exact HVW.out _ (D0.boxD false none 0 0 0).drew.lq.below))); rintro e9 wh ⟨vh, rfl, id, be⟩; obtain ⟨A7, c7, rfl, _, in9⟩:=id.form; (first | (replace D:=D.step be) | (replace D:=(D.boxMD hmd false none 0 0 0).step be) | (replace D:=(D.boxD false none 0 0 0).step be)); have hz:=be.size; (try simp at hz); replace D:=D.n in9; (try (obtain ⟨x00,x01,x02⟩:=D.lq.b0.a3; obtain ⟨y00,y01,y02⟩:=D.lq.b0.f3)); (try obtain ⟨na, nb, nc, nd, nl⟩:=D.n0)) | (go_at_call 146; (with_reducible refine (G4.out _ _ _ ?_ ?_ ?_).mono ?_); (· (first | (with_reducible refine isD_n (D.getN ?_); (repeat (first | (with_reducible exact mS) | apply mT))) | (with_reducible refine isD_n ((D.boxD false none 0 0 0).getN ?_); (repeat (first | (with_reducible exact mS) | apply mT))) | (with_reducible refine isD_n ((D0.boxD false none 0 0 0).drew.getN ?_); (repeat (first | (with_reducible exact mS) | apply mT))))); (· (first | (with_reducible refine isD_n (D.getN ?_); (repeat (first | (with_reducible exact mS) | apply mT))) | (with_reducible refine isD_n ((D.boxD false none 0 0 0).getN ?_); (repeat (first | (with_reducible exact mS) | apply mT))) | (with_reducible refine isD_n ((D0.boxD false none 0 0 0).drew.getN ?_); (repeat (first | (with_reducible exact mS) | apply mT))))); (· (first | (with_reducible exact HVW.out _ D.lq.below) | (with_reducible exact HVW.out _ (D.boxD false none 0 0 0).lq.below) | (with_reducible exact HVW.out _ (D0.boxD false none 0 0 0).drew.lq.below))); rintro e9 wh ⟨vh, rfl, id, be⟩; obtain ⟨A8, c8, rfl, _, in9⟩:=id.form; (first | (replace D:=D.step be) | (replace D:=(D.boxMD hmd false none 0 0 0).step be) | (replace D:=(D.boxD false none 0 0 0).step be)); have hz:=be.size; (try simp at hz); replace D:=D.n in9; (try (obtain ⟨x00,x01,x02⟩:=D.lq.b0.a3; obtain ⟨y00,y01,y02⟩:=D.lq.b0.f3)); (try obtain ⟨na, nb, nc, nd, nl⟩:=D.n0)))
    all_goals
     go_wp2_with fail
     go_meet
     first
     | ((with_reducible refine made1d_a D ?_) <;> (repeat (first | (with_reducible exact mS) | apply mT)))
     | ((with_reducible refine made1d_b D ?_) <;> (repeat (first | (with_reducible exact mS) | apply mT)))
   case rest =>
    obtain ⟨gx, A9, c9, rfl, hg9, bw, hb9, q1⟩:=hcut
    have L:=((LL.out.step bw).n q1).b hb9
    have hl_gx:=hg9
    clear D D0 hmd LL hb9 q1 bw hg9 HVW Q0 Q1 Q2 hc0
    generalize wc = wd41 at *
    obtain ⟨cel00,cel01,cel02⟩:=L.b0.a3
    (try go_wp2_with fail)
    refine (G5.out _ _ (isD_n (m:=XM) (e:=XE) (s:=.slice A9 (zl XM) c9) (L.getN (by simp))) L.below).mono ?_
    rintro e w43 ⟨n, hn6, hn0, v9, rfl, iz, be⟩
    clear cel00 cel01 cel02
    obtain ⟨A5, c5, rfl, _, in9⟩:=iz.form
    replace L:=(L.step be).n in9
    clear be iz in9
    obtain ⟨hSX, hp, hjk⟩:=HS.out
    have aS:=sm_ab hSX (n:=n) (by omega)
    obtain ⟨t1, t2, t3, t4, t5⟩:=nx (x := -(p : Int)) aS (by omega) (by omega)
    obtain ⟨v1, v2, v3⟩:=nx_shl (k:=j) aS (by omega) (by omega) (show p ≤ 2000 by omega)
    have g6:=fun x W h (hW : Below w.heap.size w W) => dshift_any (mkM (smA (X * X / 2 ^ p) X p n) (-(p : Int))) (mkE (smA (X * X / 2 ^ p) X p n) (-(p : Int))) (j : Int) x W h (by omega) (by omega) (by omega) (HT.out W hW)
    rw [v1, v2, v3] at g6
    have aZ : AbP (smA (X * X / 2 ^ p) X p n * 2 ^ j) (p + 20):=by
     have:=AbP.mul aS (show AbP ((2 : Int) ^ j) j by unfold AbP; rw [Int.natAbs_pow]; exact Nat.le_refl _)
     exact this.up (by omega)
    have HR:=Hd9 (And.intro (HE.out n hn0 hn6) aZ)
    generalize smA (X * X / 2 ^ p) X p n * 2 ^ j = Z at *
    clear v1 v2 v3 t1 t2 t3 t4 t5 aS aZ hn0 hn6 hSX hp HE HS
    obtain ⟨MS, hMS⟩:=nm9 (mkM (smA (X * X / 2 ^ p) X p n) (-(p : Int)))
    rw [hMS] at g6 L ⊢
    clear hMS
    obtain ⟨ES, hES⟩:=nm9 (mkE (smA (X * X / 2 ^ p) X p n) (-(p : Int)))
    rw [hES] at g6 ⊢
    clear hES
    obtain ⟨MZ, hMZ⟩:=nm9 (mkM Z (-(p : Int)))
    obtain ⟨EZ, hEZ⟩:=nm9 (mkE Z (-(p : Int)))
    rw [hMZ, hEZ] at g6
    have HZ:=Hd9 (And.intro hMZ hEZ)
    have G6:=Hd9 g6
    clear g6 hMZ hEZ
    (try go_wp2_with fail)
    refine (G6.out _ _ (isD_n (m:=MS) (e:=ES) (s:=.slice A5 (zl MS) c5) (L.getN (by simp))) L.below).mono ?_
    rintro e w44 ⟨v9, rfl, iz, be⟩
    obtain ⟨A6, c6, rfl, _, in9⟩:=iz.form
    replace L:=(L.step be).n in9
    clear be iz in9
    have hl9:=L.b0.lt
    have L9:=L.subx (ns':=[(.slice A6 (zl MZ) c6, MZ.natAbs)]) (bs':=[(w.heap.size + 1, 26, #[.bool false, .slice none 0 0, .int .i64 0])]) (by simp) (by simp)
    clear L
    have L:=L9
    clear L9
    have n9 : w.heap.size + 1 ≠ w44.heap.size:=by omega
    obtain ⟨cel00,cel01,cel02⟩:=L.b0.a3
    obtain ⟨f00,f01,f02⟩:=L.b0.f3
    have LN:=L.varD w44.heap.size rfl (ng MZ) A6 (zl MZ) c6 EZ
    obtain ⟨v0,v1,v2⟩:=LN.b0.a3
    obtain ⟨v3,v4,v5⟩:=LN.tl.b0.a3
    obtain ⟨v6,v7,v8⟩:=LN.tl.b0.f3
    go_wp2_with fail
    clear cel00 f00 cel01 f01 cel02 f02
    clear v0 v1 v2 v3 v4 v5 v6 v7 v8
    clear L
    have L:=LN.swap
    clear LN
    obtain ⟨hMZ, hEZ⟩:=HZ.out
    obtain ⟨hr1, hr2⟩:=HR.out
    have LP:=L.putD (by omega) (by first | (simp; done) | (simp; omega)) (ng MZ) A6 (zl MZ) c6 (EZ)
    obtain ⟨k0,k1,k2⟩:=LP.b0.a3
    unfold put3 at k0 k1 k2
    exact bodyPost_ret (v:=.agg #[.bool (ng MZ), .slice A6 (zl MZ) c6, .int .i64 (EZ)]) (by simp [results, Tryz.results91, go_sem, k0, k1, k2]) rfl ⟨Z, hr1, hr2, _, rfl, by rw [hMZ, hEZ]; exact isD_n (LP.getN (by simp)), LP.below⟩
def RetAt (w : World) (p : Nat) (x : Rat) (en : Ending) (w' : World) : Prop:=∃ Z, AtB p Z x ∧ AbP Z (p + 20) ∧ RetD8 w (mkM Z (-(p : Int))) (mkE Z (-(p : Int))) en w'
theorem dv_neg9 {m e : Int} (h : Dv m e) : Dv (-m) e:=by
 rcases h with ⟨h1, h2⟩ | ⟨h1, h2⟩
 ·exact Or.inl ⟨by omega, h2⟩
 ·refine Or.inr ⟨by omega, ?_⟩
  unfold fits8 at *
  rwa [Int.natAbs_neg]
theorem nx_neg9 {Z x : Int} {j : Nat} (h : AbP Z j) (hj : j ≤ 3000) (hx : -6000 ≤ x ∧ x ≤ 100) : mkM (-Z) x = -(mkM Z x) ∧ mkE (-Z) x = mkE Z x:=by
 obtain ⟨a1, _, _, a4, a5⟩:=nx (x:=x) h (by omega) (by omega)
 obtain ⟨b1, _, _, b4, b5⟩:=nx (x:=x) h.neg (by omega) (by omega)
 exact dv_uniq b4 (dv_neg9 a4) (by rw [b5, dq_neg, dq_neg, a5])
theorem small_x {x : Rat} (p : Nat) (h0 : 0 ≤ x) (h1 : x ≤ 1 / 1024) : SmX (cutQ x (p : Int)) (cutQ x (p : Int) * cutQ x (p : Int) / 2 ^ p) p ∧ dq (cutQ x (p : Int)) (-(p : Int)) ≤ x ∧ x ≤ dq (cutQ x (p : Int)) (-(p : Int)) + dq 1 (-(p : Int)):=by
 have c1:=cut_lo x (p : Int)
 have c2:=cut_hi x (p : Int)
 have n:=(quo_bd (p:=p) h0 (by grind)).2.2
 refine ⟨⟨n, ?_, rfl⟩, c1, Rat.le_of_lt c2⟩
 refine (dq_le_iff _ _ (-(p : Int))).1 ?_
 have e : dq (cutQ x (p : Int) * 1024) (-(p : Int)) = dq (cutQ x (p : Int)) (-(p : Int)) * 1024:=by
  rw [dq_scale, dq_scale (cutQ x (p : Int)), Rat.intCast_mul]
  have : ((1024 : Int) : Rat) = 1024:=rfl
  rw [this]
  grind
 rw [e, dq_scale (2 ^ p), two_cast]
 grind
theorem inv_cut {x : Rat} (p : Nat) (h0 : 0 < x) (h1 : 1 ≤ x * 1024) : 0 ≤ cutQ (1 / x) (p : Int) ∧ AbP (cutQ (1 / x) (p : Int)) (p + 10) ∧ dq (cutQ (1 / x) (p : Int)) (-(p : Int)) ≤ x⁻¹ ∧ x⁻¹ ≤ dq (cutQ (1 / x) (p : Int)) (-(p : Int)) + dq 1 (-(p : Int)):=by
 have e : 1 / x = x⁻¹:=by rw [Rat.div_def, Rat.one_mul]
 have i:=Rat.inv_mul_cancel x (Rat.ne_of_gt h0)
 have i0:=Rat.inv_pos.2 h0
 have i1 : x⁻¹ ≤ 1024:=le_of_mul h0 (by rw [i]; grind)
 obtain ⟨a, _, b⟩:=quo_bd (p:=p) (Rat.le_of_lt i0) i1
 rw [e]
 exact ⟨b, a, cut_lo _ _, Rat.le_of_lt (cut_hi _ _)⟩

theorem ttan_pos (m e : Int) (p : Nat) (vx : Value) (w : World) (hx : IsD w vx m e) (hv : Dv m e) (h0 : 0 ≤ m) (lm : zl m ≤ 100) (he : -4000 ≤ e ∧ e ≤ 4000) (hp : p ≤ 700) (hT : Tab w) :
  Calls Tryz.prog 78 #[vx, .int .i64 (p : Int)] w (RetAt w p (dq m e)):=by
 obtain ⟨A, c, rfl, _, hn⟩:=hx.form
 have L0:=(Lq.mk0 w).n hn
 have HT:=Hd9 (fun W (hW : Below w.heap.size w W) => hT.mono hW)
 have gs:=fun v W h => dsign_any m e v W h (by omega)
 obtain ⟨sg, hsg⟩:=nm9 (cmpI m 0)
 have hs0 : ¬ sg < 0:=by rw [← hsg]; unfold cmpI; (repeat' split) <;> omega
 rw [hsg] at gs
 have hpm : permB 10 = true:=by decide
 obtain ⟨y1, y2, y3⟩:=g_yes hpm 1
 have g1:=fun W (hW : Below w.heap.size w W) => gunit_any 10 W (by omega) (by omega) (hT.mono hW)
 rw [y1, y2, y3] at g1
 have l1 : AbP 1 0:=by unfold AbP; decide
 obtain ⟨u1, u2, u3, u4, u5⟩:=nx (x := -10) l1 (by omega) (by omega)
 rw [u1] at g1
 have g2:=fun v u W h k => dcmp_any m e (mkM 1 (-10)) (mkE 1 (-10)) v u W h k (by omega) (by omega) (by omega) (by omega)
 have hc:=dcm_le m e (mkM 1 (-10)) (mkE 1 (-10))
 rw [u5, show dq 1 (-10) = 1 / 1024 by decide +kernel] at hc
 obtain ⟨sc, hsc⟩:=nm9 (dcm m e (mkM 1 (-10)) (mkE 1 (-10)))
 rw [show cmpI (m * 2 ^ (e - min e (mkE 1 (-10))).toNat) (mkM 1 (-10) * 2 ^ (mkE 1 (-10) - min e (mkE 1 (-10))).toNat) = dcm m e (mkM 1 (-10)) (mkE 1 (-10)) from rfl, hsc] at g2
 rw [hsc] at hc
 have hq0 : 0 ≤ dq m e:=by have:=(dq_le_iff 0 m e).2 h0; rwa [dq_zero] at this
 obtain ⟨ML, hML⟩:=nm9 (mkM 1 (-10))
 obtain ⟨EL, hEL⟩:=nm9 (mkE 1 (-10))
 rw [hML, hEL] at g1 g2
 have GS:=Hd9 gs
 have G1:=Hd9 g1
 have G2:=Hd9 g2
 clear gs g1 g2 hsg y1 y2 y3 hpm l1 u1 u2 u3 u4 u5 hML hEL hsc hT hx hn
 by_cases hc0 : sc ≤ 0
 ·have hle:=hc.1 hc0
  have d1 : decide (sc ≤ 0) = true:=decide_eq_true hc0
  obtain ⟨hX, x1, x2⟩:=small_x p hq0 hle
  obtain ⟨X, hXe⟩:=nm9 (cutQ (dq m e) (p : Int))
  rw [hXe] at hX x1 x2
  have aX:=unit_ab hX.nn hX.lt
  obtain ⟨n1, n2, n3, n4, n5⟩:=nx (x := -(p : Int)) aX (by omega) (by omega)
  obtain ⟨y1, y2, y3⟩:=g_yes (permN (p:=p) (by omega)) X
  have g3:=fun x W h (hW : Below w.heap.size w W) => gfloor_any m e (p : Int) x W h (by omega) (by omega) (by omega) (by omega) (HT.out W hW)
  rw [hXe, y1, y2, y3, n1] at g3
  have g4:=fun x W h (hW : Below w.heap.size w W) => tser_any X (X * X / 2 ^ p) p x W h hX (by omega) (HT.out W hW)
  have HE:=Hd9 (fun n (hn : pwA (X * X / 2 ^ p) X p n = 0) (h6 : n ≤ 60) => And.intro (small_at hX hn (by omega) hq0 hle x1 x2) ((sm_ab hX (n:=n) (by omega)).up (show p ≤ p + 20 by omega)))
  obtain ⟨XM, hXM⟩:=nm9 (mkM X (-(p : Int)))
  obtain ⟨XE, hXE⟩:=nm9 (mkE X (-(p : Int)))
  rw [hXM, hXE] at g3 g4
  have G3:=Hd9 g3
  have G4:=Hd9 g4
  clear g3 g4 hXM hXE n1 n2 n3 n4 n5 y1 y2 y3 aX hX x1 x2 hXe hle hc hq0 lm he hp hv h0
  go_enter Tryz.func78, Tryz.ntmps78
  have L:=((L0.varD (w.heap.size) (by simp) (ng m) A (zl m) c e).varD (w.heap.size + 1) (by simp) false none 0 0 0)
  obtain ⟨c10,c11,c12⟩:=L.tl.b0.a3
  (try go_wp2_with fail)
  refine (GS.out _ _ (isD_n (m:=m) (e:=e) (s:=.slice A (zl m) c) (L.getN (by simp)))).mono ?_
  rintro e w1 ⟨rfl, be⟩
  clear c10 c11 c12
  replace L:=L.step be
  clear be
  (try go_wp2_with fail)
  refine (G1.out _ L.below).mono ?_
  rintro e w2 ⟨v9, rfl, iz, be⟩
  obtain ⟨A1, c1, rfl, _, in9⟩:=iz.form
  replace L:=(L.step be).n in9
  clear be iz in9
  have hl9:=L.b0.lt
  replace L:=L.varD w2.heap.size rfl (ng ML) A1 (zl ML) c1 EL
  obtain ⟨c00,c01,c02⟩:=L.b0.a3
  obtain ⟨c20,c21,c22⟩:=L.tl.tl.b0.a3
  (try go_wp2_with fail)
  clear c00 c01 c02 c20 c21 c22
  obtain ⟨gl, hgl⟩:=nm9 (w2.heap.size)
  rw [hgl] at L hl9 ⊢
  clear hgl
  have hl_gl:=hl9
  clear hl9
  refine (G2.out _ _ _ (isD_n (m:=m) (e:=e) (s:=.slice A (zl m) c) (L.getN (by simp))) (isD_n (m:=ML) (e:=EL) (s:=.slice A1 (zl ML) c1) (L.getN (by simp)))).mono ?_
  rintro e w3 ⟨rfl, be⟩
  replace L:=L.step be
  clear be
  obtain ⟨c20,c21,c22⟩:=L.tl.tl.b0.a3
  (try go_wp2_with fail)
  refine (G3.out _ _ (isD_n (m:=m) (e:=e) (s:=.slice A (zl m) c) (L.getN (by simp))) L.below).mono ?_
  rintro e w4 ⟨v9, rfl, iz, be⟩
  clear c20 c21 c22
  obtain ⟨A2, c2, rfl, _, in9⟩:=iz.form
  replace L:=(L.step be).n in9
  clear be iz in9
  have hl9:=L.b0.lt
  replace L:=L.varD w4.heap.size rfl (ng XM) A2 (zl XM) c2 XE
  obtain ⟨c00,c01,c02⟩:=L.b0.a3
  (try go_wp2_with fail)
  clear c00 c01 c02
  obtain ⟨gx, hgx⟩:=nm9 (w4.heap.size)
  rw [hgx] at L hl9 ⊢
  clear hgx
  have hl_gx:=hl9
  clear hl9
  refine (G4.out _ _ (isD_n (m:=XM) (e:=XE) (s:=.slice A2 (zl XM) c2) (L.getN (by simp))) L.below).mono ?_
  rintro e w5 ⟨n, hn6, hn0, v9, rfl, iz, be⟩
  obtain ⟨A5, c5, rfl, _, in9⟩:=iz.form
  replace L:=(L.step be).n in9
  clear be iz in9
  obtain ⟨hr1, hr2⟩:=HE.out n hn0 hn6
  generalize smA (X * X / 2 ^ p) X p n = Z at *
  have L9:=L.subx (ns':=[(.slice A5 (zl (mkM Z (-(p : Int)))) c5, (mkM Z (-(p : Int))).natAbs)]) (bs':=[(w.heap.size + 1, 26, #[.bool false, .slice none 0 0, .int .i64 0])]) (by simp) (by simp)
  clear L
  have L:=L9
  clear L9
  obtain ⟨c00,c01,c02⟩:=L.b0.a3
  obtain ⟨f00,f01,f02⟩:=L.b0.f3
  (try go_wp2_with fail)
  clear c00 f00 c01 f01 c02 f02
  have LP:=L.putD (by omega) (by first | (simp; done) | (simp; omega)) (ng (mkM Z (-(p : Int)))) A5 (zl (mkM Z (-(p : Int)))) c5 (mkE Z (-(p : Int)))
  obtain ⟨k0,k1,k2⟩:=LP.b0.a3
  unfold put3 at k0 k1 k2
  exact bodyPost_ret (v:=.agg #[.bool (ng (mkM Z (-(p : Int)))), .slice A5 (zl (mkM Z (-(p : Int)))) c5, .int .i64 (mkE Z (-(p : Int)))]) (by simp [results, Tryz.results78, go_sem, k0, k1, k2]) rfl ⟨Z, hr1, hr2, _, rfl, isD_n (LP.getN (by simp)), LP.below⟩
 ·have hgt : 1 / 1024 < dq m e:=by
   refine Rat.not_le.1 fun h => hc0 (hc.2 h)
  have d1 : decide (sc ≤ 0) = false:=decide_eq_false hc0
  have h1024 : 1 ≤ dq m e * 1024:=by grind
  have hpos : 0 < dq m e:=by grind
  obtain ⟨i0, i1, i2, i3⟩:=inv_cut p hpos h1024
  obtain ⟨C, hCe⟩:=nm9 (cutQ (1 / dq m e) (p : Int))
  rw [hCe] at i0 i1 i2 i3
  have l1 : AbP 1 0:=by unfold AbP; decide
  obtain ⟨u1, u2, u3, u4, u5⟩:=nx (x:=0) l1 (by omega) (by omega)
  have one : dq 1 0 = 1:=by decide +kernel
  have g3:=fun W (hW : Below w.heap.size w W) => dof_any 1 W (by omega) (by omega) (HT.out W hW)
  have g4:=fun x y W h i (hW : Below w.heap.size w W) => tquot_any (mkM 1 0) (mkE 1 0) m e C p x y W h i u4 hv (by omega) (by omega) (by omega) (by omega) (by rw [u5, one]; decide) (by rw [u5, one]; exact Rat.le_refl) h1024 (by rw [u5, one]; exact hCe) (by omega) (HT.out W hW)
  have g5:=fun x W h (hW : Below w.heap.size w W) => tangle_any C p x W h i0 (i1.up (by omega)) (by omega) (HT.out W hW)
  have HE:=Hd9 (fun Z (h : AgI p C Z) => h.at hpos i2 i3)
  obtain ⟨XM, hXM⟩:=nm9 (mkM C (-(p : Int)))
  obtain ⟨XE, hXE⟩:=nm9 (mkE C (-(p : Int)))
  rw [hXM, hXE] at g4 g5
  obtain ⟨M1, hM1⟩:=nm9 (mkM 1 0)
  obtain ⟨E1, hE1⟩:=nm9 (mkE 1 0)
  rw [hM1, hE1] at g3 g4
  have G3:=Hd9 g3
  have G4:=Hd9 g4
  have G5:=Hd9 g5
  clear g3 g4 g5 hXM hXE hM1 hE1 l1 u1 u2 u3 u4 u5 one i0 i1 i2 i3 hCe h1024 hpos hgt hc hq0 lm he hp hv h0
  go_enter Tryz.func78, Tryz.ntmps78
  have L:=((L0.varD (w.heap.size) (by simp) (ng m) A (zl m) c e).varD (w.heap.size + 1) (by simp) false none 0 0 0)
  obtain ⟨c10,c11,c12⟩:=L.tl.b0.a3
  (try go_wp2_with fail)
  refine (GS.out _ _ (isD_n (m:=m) (e:=e) (s:=.slice A (zl m) c) (L.getN (by simp)))).mono ?_
  rintro e w1 ⟨rfl, be⟩
  clear c10 c11 c12
  replace L:=L.step be
  clear be
  (try go_wp2_with fail)
  refine (G1.out _ L.below).mono ?_
  rintro e w2 ⟨v9, rfl, iz, be⟩
  obtain ⟨A1, c1, rfl, _, in9⟩:=iz.form
  replace L:=(L.step be).n in9
  clear be iz in9
  have hl9:=L.b0.lt
  replace L:=L.varD w2.heap.size rfl (ng ML) A1 (zl ML) c1 EL
  obtain ⟨c00,c01,c02⟩:=L.b0.a3
  obtain ⟨c20,c21,c22⟩:=L.tl.tl.b0.a3
  (try go_wp2_with fail)
  clear c00 c01 c02 c20 c21 c22
  obtain ⟨gl, hgl⟩:=nm9 (w2.heap.size)
  rw [hgl] at L hl9 ⊢
  clear hgl
  have hl_gl:=hl9
  clear hl9
  refine (G2.out _ _ _ (isD_n (m:=m) (e:=e) (s:=.slice A (zl m) c) (L.getN (by simp))) (isD_n (m:=ML) (e:=EL) (s:=.slice A1 (zl ML) c1) (L.getN (by simp)))).mono ?_
  rintro e w3 ⟨rfl, be⟩
  replace L:=L.step be
  clear be
  have L9:=L.subx (ns':=[(.slice A (zl m) c, m.natAbs)]) (bs':=[(w.heap.size + 1, 26, #[.bool false, .slice none 0 0, .int .i64 0]), (w.heap.size, 26, #[.bool (ng m), .slice A (zl m) c, .int .i64 e])]) (by simp) (by simp)
  clear L
  have L:=L9
  clear L9
  replace L:=L.drew
  (try go_wp2_with fail)
  have LD:=L
  clear L
  obtain ⟨c00,c01,c02⟩:=LD.b0.a3
  obtain ⟨f00,f01,f02⟩:=LD.b0.f3
  obtain ⟨c10,c11,c12⟩:=LD.tl.b0.a3
  go_cut [] from 34 to 39 (fun wx => ∃ Z A8 c8, (AgI p C Z ∧ AbP Z (p + 20)) ∧ Lq w wx [(.slice A8 (zl (mkM Z (-(p : Int)))) c8, (mkM Z (-(p : Int))).natAbs)] [] [] [(w.heap.size + 1, 26, #[.bool (ng (mkM Z (-(p : Int)))), .slice A8 (zl (mkM Z (-(p : Int)))) c8, .int .i64 (mkE Z (-(p : Int)))])])
  case first =>
   go_region_with (first | (go_at_call 92; (with_reducible refine (G3.out _ LD.below).mono ?_); rintro e9 wh ⟨vh, rfl, id, be⟩; obtain ⟨A7, c7, rfl, _, in9⟩:=id.form; replace LD:=(LD.step be).n in9; clear be id in9; (try (have r0:=LD.b0.c30; have t0:=LD.b0.fr 0; have s0:=LD.tl.b0.c30; have r1:=LD.b0.c31; have t1:=LD.b0.fr 1; have s1:=LD.tl.b0.c31; have r2:=LD.b0.c32; have t2:=LD.b0.fr 2; have s2:=LD.tl.b0.c32))) | (go_at_call 146; (with_reducible refine (G4.out _ _ _ ?_ ?_ LD.below).mono ?_); (· (refine isD_n (LD.getN ?_) <;> (repeat (first | (with_reducible exact mS) | apply mT)))); (· (refine isD_n (LD.getN ?_) <;> (repeat (first | (with_reducible exact mS) | apply mT)))); rintro e9 wh ⟨vh, rfl, id, be⟩; obtain ⟨A9, c9, rfl, _, in9⟩:=id.form; replace LD:=(LD.step be).n in9; clear be id in9; (try (have r0:=LD.b0.c30; have t0:=LD.b0.fr 0; have s0:=LD.tl.b0.c30; have r1:=LD.b0.c31; have t1:=LD.b0.fr 1; have s1:=LD.tl.b0.c31; have r2:=LD.b0.c32; have t2:=LD.b0.fr 2; have s2:=LD.tl.b0.c32))) | (go_at_call 91; (with_reducible refine (G5.out _ _ ?_ LD.below).mono ?_); (· (refine isD_n (LD.getN ?_) <;> (repeat (first | (with_reducible exact mS) | apply mT)))); rintro e9 wh ⟨Z, hz1, hz2, vh, rfl, id, be⟩; obtain ⟨A8, c8, rfl, _, in9⟩:=id.form; replace LD:=(LD.step be).n in9; clear be id in9; (try (have r0:=LD.b0.c30; have t0:=LD.b0.fr 0; have s0:=LD.tl.b0.c30; have r1:=LD.b0.c31; have t1:=LD.b0.fr 1; have s1:=LD.tl.b0.c31; have r2:=LD.b0.c32; have t2:=LD.b0.fr 2; have s2:=LD.tl.b0.c32))))
   all_goals
    have LP:=LD.putD (by omega) (by first | (simp; done) | (simp; omega)) (ng (mkM Z (-(p : Int)))) A8 (zl (mkM Z (-(p : Int)))) c8 (mkE Z (-(p : Int)))
    unfold put3 at LP
    go_wp2_with fail
    go_meet
    exact ⟨Z, A8, c8, ⟨hz1, hz2⟩, LP.subx (by simp) (by simp)⟩
  case rest =>
   obtain ⟨Z, A8, c8, ⟨hz1, hz2⟩, L⟩:=hcut
   generalize wc = wd0 at *
   clear LD
   obtain ⟨k0,k1,k2⟩:=L.b0.a3
   (try go_wp2_with fail)
   exact bodyPost_ret (v:=.agg #[.bool (ng (mkM Z (-(p : Int)))), .slice A8 (zl (mkM Z (-(p : Int)))) c8, .int .i64 (mkE Z (-(p : Int)))]) (by simp [results, Tryz.results78, go_sem, k0, k1, k2]) rfl ⟨Z, HE.out Z hz1, hz2, _, rfl, isD_n (L.getN (by simp)), L.below⟩
theorem ttan_any (m e : Int) (p : Nat) (vx : Value) (w : World) (hx : IsD w vx m e) (hv : Dv m e) (lm : zl m ≤ 100) (he : -4000 ≤ e ∧ e ≤ 4000) (hp : p ≤ 700) (hT : Tab w) :
  Calls Tryz.prog 78 #[vx, .int .i64 (p : Int)] w (RetAt w p (dq m e)):=by
 by_cases h0 : 0 ≤ m
 ·exact ttan_pos m e p vx w hx hv h0 lm he hp hT
 obtain ⟨A, c, rfl, _, hn⟩:=hx.form
 have L0:=(Lq.mk0 w).n hn
 have zn:=zl_neg m
 have gs:=fun v W h => dsign_any m e v W h (by omega)
 obtain ⟨sg, hsg⟩:=nm9 (cmpI m 0)
 have hs0 : sg < 0:=by rw [← hsg, cmpI_lt (by omega)]; decide
 rw [hsg] at gs
 have g1:=fun v W h => dneg_any m e v W h (by omega)
 have g2:=fun x W h (hW : Below w.heap.size w W) => ttan_pos (-m) e p x W h (dv_neg9 hv) (by omega) (by omega) he hp (hT.mono hW)
 rw [dq_neg] at g2
 have HQ:=Hd9 hp
 have GS:=Hd9 gs
 have G1:=Hd9 g1
 have G2:=Hd9 g2
 have d1 : decide (sg < 0) = true:=decide_eq_true hs0
 obtain ⟨mn, hmn⟩:=nm9 (-m)
 rw [hmn] at G1 G2
 clear gs g1 g2 hsg hT hx hn hv lm he hp zn h0 hmn
 go_enter Tryz.func78, Tryz.ntmps78
 have L:=((L0.varD (w.heap.size) (by simp) (ng m) A (zl m) c e).varD (w.heap.size + 1) (by simp) false none 0 0 0)
 obtain ⟨c10,c11,c12⟩:=L.tl.b0.a3
 (try go_wp2_with fail)
 refine (GS.out _ _ (isD_n (m:=m) (e:=e) (s:=.slice A (zl m) c) (L.getN (by simp)))).mono ?_
 rintro e w1 ⟨rfl, be⟩
 clear c10 c11 c12
 replace L:=L.step be
 clear be
 obtain ⟨c10,c11,c12⟩:=L.tl.b0.a3
 (try go_wp2_with fail)
 refine (G1.out _ _ (isD_n (m:=m) (e:=e) (s:=.slice A (zl m) c) (L.getN (by simp)))).mono ?_
 rintro e w2 ⟨v9, rfl, iz, be⟩
 clear c10 c11 c12
 obtain ⟨A1, c1, rfl, _, in9⟩:=iz.form
 replace L:=(L.step be).n in9
 clear be iz in9
 (try go_wp2_with fail)
 refine (G2.out _ _ (isD_n (m:=mn) (e:=e) (s:=.slice A1 (zl mn) c1) (L.getN (by simp))) L.below).mono ?_
 rintro e w3 ⟨Z, hz1, hz2, v9, rfl, iz, be⟩
 obtain ⟨A5, c5, rfl, _, in9⟩:=iz.form
 replace L:=(L.step be).n in9
 clear be iz in9
 have hp:=HQ.out
 obtain ⟨t1, t2, t3, t4, t5⟩:=nx (x := -(p : Int)) hz2 (by omega) (by omega)
 obtain ⟨v1, v2⟩:=nx_neg9 (x := -(p : Int)) hz2 (by omega) (by omega)
 have g3:=fun v W h => dneg_any (mkM Z (-(p : Int))) (mkE Z (-(p : Int))) v W h (by omega)
 rw [← v1, ← v2] at g3
 have hr1:=hz1.neg
 rw [Rat.neg_neg] at hr1
 have HR:=Hd9 (And.intro hr1 hz2.neg)
 clear t1 t2 t3 t4 t5 hr1 hz1 hz2
 rw [← v2]
 rw [v2] at g3 ⊢
 clear v1
 obtain ⟨MZ, hMZ⟩:=nm9 (mkM Z (-(p : Int)))
 rw [hMZ] at g3 L ⊢
 obtain ⟨EZ, hEZ⟩:=nm9 (mkE Z (-(p : Int)))
 rw [hEZ] at g3 v2 ⊢
 have HV:=Hd9 v2
 clear v2 hMZ hEZ
 have G3:=Hd9 g3
 clear g3
 (try go_wp2_with fail)
 refine (G3.out _ _ (isD_n (m:=MZ) (e:=EZ) (s:=.slice A5 (zl MZ) c5) (L.getN (by simp)))).mono ?_
 rintro e w4 ⟨v9, rfl, iz, be⟩
 obtain ⟨A6, c6, rfl, _, in9⟩:=iz.form
 replace L:=(L.step be).n in9
 clear be iz in9
 have L9:=L.subx (ns':=[(.slice A6 (zl (mkM (-Z) (-(p : Int)))) c6, (mkM (-Z) (-(p : Int))).natAbs)]) (bs':=[(w.heap.size + 1, 26, #[.bool false, .slice none 0 0, .int .i64 0])]) (by simp) (by simp)
 clear L
 have L:=L9
 clear L9
 obtain ⟨c00,c01,c02⟩:=L.b0.a3
 obtain ⟨f00,f01,f02⟩:=L.b0.f3
 (try go_wp2_with fail)
 clear c00 f00 c01 f01 c02 f02
 obtain ⟨hr1, hr2⟩:=HR.out
 have v2:=HV.out
 have LP:=L.putD (by omega) (by first | (simp; done) | (simp; omega)) (ng (mkM (-Z) (-(p : Int)))) A6 (zl (mkM (-Z) (-(p : Int)))) c6 (EZ)
 obtain ⟨k0,k1,k2⟩:=LP.b0.a3
 unfold put3 at k0 k1 k2
 exact bodyPost_ret (v:=.agg #[.bool (ng (mkM (-Z) (-(p : Int)))), .slice A6 (zl (mkM (-Z) (-(p : Int)))) c6, .int .i64 (EZ)]) (by simp [results, Tryz.results78, go_sem, k0, k1, k2]) rfl ⟨-Z, hr1, hr2, _, rfl, by rw [v2]; exact isD_n (LP.getN (by simp)), LP.below⟩

theorem i10out_yes (m e n f p : Int) (vx : Value) (w : World) (hx : IsI w vx m e n f) (lm : zl m ≤ 1000) (ln : zl n ≤ 1000) (he : -20000 ≤ e ∧ e ≤ 20000) (hf : -20000 ≤ f ∧ f ≤ 20000) (hp1 : -9223372036854775808 ≤ p) (hp2 : p ≤ 9223372036854775807) (hp : permB p = true) (r1 : mkR (cutQ (dq m e) p) (-p) = 0) (r2 : mkR (-(cutQ (-(dq n f)) p)) (-p) = 0) (hT : Tab w) :
  Calls Tryz.prog 58 #[vx, .int .i64 p] w (RetIE w (mkM (cutQ (dq m e) p) (-p)) (mkE (cutQ (dq m e) p) (-p)) (mkM (-(cutQ (-(dq n f)) p)) (-p)) (mkE (-(cutQ (-(dq n f)) p)) (-p)) 0):=by
 obtain ⟨A, c, B, d, rfl, hn1, hn2⟩:=hx.form
 have L0:=((Lq.mk0 w).n hn2).n hn1
 have h1:=fun v W h (hW : Below w.heap.size w W) => gfloor_any m e p v W h (by omega) (by omega) hp1 hp2 (hT.mono hW)
 have h2:=fun v W h (hW : Below w.heap.size w W) => gceil_any n f p v W h (by omega) (by omega) hp1 hp2 (hT.mono hW)
 rw [(g_yes hp (cutQ (dq m e) p)).1, (g_yes hp (cutQ (dq m e) p)).2.1, (g_yes hp (cutQ (dq m e) p)).2.2] at h1
 rw [(g_yes hp (-(cutQ (-(dq n f)) p))).1, (g_yes hp (-(cutQ (-(dq n f)) p))).2.1, (g_yes hp (-(cutQ (-(dq n f)) p))).2.2] at h2
 rw [r1] at h1
 rw [r2] at h2
 generalize mkM (cutQ (dq m e) p) (-p) = M at *
 generalize mkE (cutQ (dq m e) p) (-p) = E at *
 generalize mkM (-(cutQ (-(dq n f)) p)) (-p) = N at *
 generalize mkE (-(cutQ (-(dq n f)) p)) (-p) = G at *
 have H1:=Hd9 h1
 have H2:=Hd9 h2
 clear h1 h2 hx hn1 hn2 lm ln he hf hp1 hp2 hp hT r1 r2
 go_enter Tryz.func58, Tryz.ntmps58
 go_wp2_with fail
 have L:=((L0.varI (w.heap.size) (by simp) (ng m) A (zl m) c e (ng n) B (zl n) d f).varI (w.heap.size + 1) (by simp) false none 0 0 0 false none 0 0 0)
 obtain ⟨c00,c01,c02,c03,c04,c05⟩:=L.b0.a6
 obtain ⟨f00,f01,f02,f03,f04,f05⟩:=L.b0.f6
 obtain ⟨c10,c11,c12,c13,c14,c15⟩:=L.tl.b0.a6
 (try go_wp2_with fail)
 refine (H1.out _ _ (isD_n (m:=m) (e:=e) (s:=.slice A (zl m) c) (L.getN (v:=.slice A (zl m) c) (x:=(m).natAbs) (by simp))) L.below).mono ?_
 rintro e w1 ⟨vv, rfl, id, be⟩
 clear c00 f00 c01 f01 c02 f02 c03 f03 c04 f04 c05 f05 c10 c11 c12 c13 c14 c15
 obtain ⟨A8, c8, rfl, _, in9⟩:=id.form
 replace L:=(L.step be).n in9
 clear be id in9
 have hlg:=L.b0.lt
 replace L:=L.varD w1.heap.size rfl (ng M) A8 (zl M) c8 E
 obtain ⟨c00,c01,c02⟩:=L.b0.a3
 obtain ⟨c20,c21,c22,c23,c24,c25⟩:=L.tl.tl.b0.a6
 go_wp2_with fail
 obtain ⟨g, hg⟩:=nm9 (w1.heap.size)
 rw [hg] at L hlg c00 c01 c02 ⊢
 clear hg
 refine (H2.out _ _ (isD_n (m:=n) (e:=f) (s:=.slice B (zl n) d) (L.getN (v:=.slice B (zl n) d) (x:=(n).natAbs) (by simp))) L.below).mono ?_
 rintro e w2 ⟨vv, rfl, id, be⟩
 clear c00 c01 c02 c20 c21 c22 c23 c24 c25
 obtain ⟨A9, c9, rfl, _, in9⟩:=id.form
 replace L:=(L.step be).n in9
 clear be id in9
 have hlk9:=L.b0.lt
 replace L:=L.varD w2.heap.size rfl (ng N) A9 (zl N) c9 G
 have n1 : w.heap.size + 1 ≠ g:=by omega
 have n2 : w.heap.size + 1 ≠ w2.heap.size:=by omega
 replace L:=L.pull2
 obtain ⟨c00,c01,c02,c03,c04,c05⟩:=L.b0.a6
 obtain ⟨f00,f01,f02,f03,f04,f05⟩:=L.b0.f6
 obtain ⟨c10,c11,c12⟩:=L.tl.b0.a3
 obtain ⟨c20,c21,c22⟩:=L.tl.tl.b0.a3
 go_wp2_with fail
 have LP:=L.putI (by omega) (by simp [n1, n2, Ne.symm n1, Ne.symm n2]) (ng M) A8 (zl M) c8 E (ng N) A9 (zl N) c9 G
 obtain ⟨k0,k1,k2,k3,k4,k5⟩:=LP.b0.a6
 unfold put6 at k0 k1 k2 k3 k4 k5
 exact bodyPost_ret (v:=.tuple #[.agg #[.bool (ng M), .slice A8 (zl M) c8, .int .i64 E, .bool (ng N), .slice A9 (zl N) c9, .int .i64 G], .int .i64 0]) (by simp [results, Tryz.results58, go_sem, k0, k1, k2, k3, k4, k5]) rfl ⟨_, rfl, isI_n (LP.getN (by simp)) (LP.getN (by simp)), LP.below⟩

theorem atLo_cut {S : Int} {k p : Nat} (hp : p = k + 32) : cutQ (dq (S - 2097152) (-(p : Int))) (k : Int) = atLo S:=cutD_down 32 (by omega)
theorem atHi_cut {S : Int} {k p : Nat} (hp : p = k + 32) : -(cutQ (-(dq (S + 2097152) (-(p : Int)))) (k : Int)) = atHi S:=by
 rw [← dq_neg, cutD_down 32 (by omega)]
 rfl
theorem at_margin {p q : Nat} (h : q + 21 = p) (hp : p ≤ 3000) : mkM 1 (-(q : Int)) = mkM 2097152 (-(p : Int)) ∧ mkE 1 (-(q : Int)) = mkE 2097152 (-(p : Int)) ∧ mkR 1 (-(q : Int)) = 0:=by
 obtain ⟨a1, _⟩:=nx (T:=1) (x := -(q : Int)) (j:=0) (by unfold AbP; decide) (by omega) (by omega)
 obtain ⟨b1, _⟩:=nx (T:=2097152) (x := -(p : Int)) (j:=21) (by unfold AbP; decide) (by omega) (by omega)
 have:=mk_uniq a1 b1 (by
  refine dq_eq (F := -(p : Int)) ?_ (by omega) (by omega)
  rw [show (-(q : Int) - -(p : Int)).toNat = 21 by omega, show (-(p : Int) - -(p : Int)).toNat = 0 by omega]
  decide)
 exact ⟨this.1, this.2, a1⟩
theorem at_size {Z : Int} {k p : Nat} (hp : p = k + 32) (h : AbP Z (p + 20)) : AbP (atLo Z) (k + 21) ∧ AbP (atHi Z) (k + 21):=by
 have e1 : (2 : Nat) ^ (p + 20) = 2 ^ k * 4503599627370496:=by rw [hp, show k + 32 + 20 = k + 52 by omega, Nat.pow_add]
 have e2 : (2 : Nat) ^ (k + 21) = 2 ^ k * 2097152:=by rw [Nat.pow_add]
 have pp : 0 < (2 : Nat) ^ k:=Nat.pow_pos (by omega)
 have e3 : (2 : Int) ^ 32 = 4294967296:=rfl
 unfold AbP atLo atHi at *
 rw [e1] at h
 rw [e2, e3]
 generalize (2 : Nat) ^ k = P at *
 constructor <;> omega
theorem at_tight (Z : Int) : atLo Z ≤ atHi Z ∧ atHi Z ≤ atLo Z + 2:=by
 have e3 : (2 : Int) ^ 32 = 4294967296:=rfl
 unfold atLo atHi
 rw [e3]
 constructor <;> omega
theorem okA_yes {k : Nat} (h : k ≤ 4096) : okA (k : Int) = true:=by
 unfold okA
 rw [decide_eq_true (show (0 : Int) ≤ (k : Int) by omega), decide_eq_true (show (k : Int) ≤ 4096 by omega)]
 rfl
theorem nx_int (n : Int) (p : Nat) (hn : AbP n 20) (hp : p ≤ 2000) : mkM n 0 = mkM (n * 2 ^ p) (-(p : Int)) ∧ mkE n 0 = mkE (n * 2 ^ p) (-(p : Int)) ∧ AbP (n * 2 ^ p) (p + 30) ∧ dq (n * 2 ^ p) (-(p : Int)) = (n : Rat):=by
 have ha : AbP (n * 2 ^ p) (20 + p):=AbP.mul hn (by unfold AbP; rw [Int.natAbs_pow]; exact Nat.le_refl _)
 obtain ⟨a1, _⟩:=nx (T:=n) (x:=0) hn (by omega) (by omega)
 obtain ⟨b1, _⟩:=nx (T:=n * 2 ^ p) (x := -(p : Int)) ha (by omega) (by omega)
 have e : dq (n * 2 ^ p) (-(p : Int)) = (n : Rat):=by
  rw [dq_scale, Rat.intCast_mul, Rat.mul_assoc, two_cast, Rat.mul_one]
 have:=mk_uniq a1 b1 (by rw [e, dq_int])
 exact ⟨this.1, this.2, ha.up (by omega), e⟩
def RetTn (w : World) (k : Nat) (m e n f : Int) (en : Ending) (w' : World) : Prop:=∃ a b : Int, (EaA k a (dq m e) ∧ EaB k b (dq n f) ∧ AbP a (k + 21) ∧ AbP b (k + 21)) ∧ RetIE w (mkM a (-(k : Int))) (mkE a (-(k : Int))) (mkM b (-(k : Int))) (mkE b (-(k : Int))) 0 en w'
def RetRc (w : World) (k : Nat) (x : Rat) (en : Ending) (w' : World) : Prop:=∃ a b : Int, (EaA k a x ∧ EaB k b x ∧ AbP a (k + 21) ∧ AbP b (k + 21) ∧ a ≤ b ∧ b ≤ a + 2) ∧ RetIE w (mkM a (-(k : Int))) (mkE a (-(k : Int))) (mkM b (-(k : Int))) (mkE b (-(k : Int))) 0 en w'

theorem taround_any (Z1 Z2 : Int) (k p : Nat) (vx vy : Value) (w : World) (hx : IsD w vx (mkM Z1 (-(p : Int))) (mkE Z1 (-(p : Int)))) (hy : IsD w vy (mkM Z2 (-(p : Int))) (mkE Z2 (-(p : Int)))) (h1 : AbP Z1 (p + 20)) (h2 : AbP Z2 (p + 20)) (hp : p = k + 32) (hk : k ≤ 600) (hT : Tab w) :
  Calls Tryz.prog 79 #[vx, vy, .int .i64 (k : Int)] w (RetIE w (mkM (atLo Z1) (-(k : Int))) (mkE (atLo Z1) (-(k : Int))) (mkM (atHi Z2) (-(k : Int))) (mkE (atHi Z2) (-(k : Int))) 0):=by
 obtain ⟨A, c, rfl, _, hn⟩:=hx.form
 obtain ⟨B, d, rfl, _, hn2⟩:=hy.form
 have L0:=((Lq.mk0 w).n hn2).n hn
 obtain ⟨q, hq⟩:=nm9 (k + 11)
 obtain ⟨u1, u2, u3⟩:=at_margin (p:=p) (q:=q) (by omega) (by omega)
 obtain ⟨y1, y2, y3⟩:=g_yes (permN (p:=q) (by omega)) 1
 have g8:=fun W (hW : Below w.heap.size w W) => gunit_any (q : Int) W (by omega) (by omega) (hT.mono hW)
 rw [y1, y2, y3, u1, u2, u3] at g8
 have w1 : IntKind.i64.wrap ((k : Int) + 32) = (p : Int):=by rw [IntKind.wrap_i64]; omega
 have w2 : IntKind.i64.wrap ((p : Int) - 21) = (q : Int):=by rw [IntKind.wrap_i64]; omega
 have a15 : AbP 2097152 (p + 20):=AbP.up (j:=21) (by unfold AbP; decide) (by omega)
 have hpy : -6000 ≤ -(p : Int) ∧ -(p : Int) ≤ 100:=by omega
 have hpc : -4500 ≤ -(p : Int) ∧ -(p : Int) ≤ 0:=by omega
 obtain ⟨r1, r2, r3, _, _⟩:=nxc 10000 h1 (by omega) hpc (by omega) (by omega)
 obtain ⟨s1, s2, s3, _, _⟩:=nxc 10000 h2 (by omega) hpc (by omega) (by omega)
 obtain ⟨t1, t2, t3, _, _⟩:=nxc 10000 a15 (by omega) hpc (by omega) (by omega)
 obtain ⟨b1, b2, b3⟩:=nx_sub h1 a15 (by omega) hpy
 have g9:=fun x y W h i (hW : Below w.heap.size w W) => dsub_any (mkM Z1 (-(p : Int))) (mkE Z1 (-(p : Int))) (mkM 2097152 (-(p : Int))) (mkE 2097152 (-(p : Int))) x y W h i (by omega) (by omega) (by omega) (by omega) (hT.mono hW)
 rw [b1, b2, b3] at g9
 have al : AbP (Z1 - 2097152) (p + 21):=by rw [Int.sub_eq_add_neg]; exact h1.add a15.neg
 obtain ⟨l1, l2, l3, l4, l5⟩:=nxc 10000 al (by omega) hpc (by omega) (by omega)
 obtain ⟨c1', c2', c3'⟩:=nx_add h2 a15 (by omega) hpy
 have g10:=fun x y W h i (hW : Below w.heap.size w W) => dadd_any (mkM Z2 (-(p : Int))) (mkE Z2 (-(p : Int))) (mkM 2097152 (-(p : Int))) (mkE 2097152 (-(p : Int))) x y W h i (by omega) (by omega) (by omega) (by omega) (hT.mono hW)
 rw [c1', c2', c3'] at g10
 have ah : AbP (Z2 + 2097152) (p + 21):=h2.add a15
 obtain ⟨k1, k2, k3, k4, k5⟩:=nxc 10000 ah (by omega) hpc (by omega) (by omega)
 obtain ⟨la, _⟩:=at_size hp h1
 obtain ⟨_, lb⟩:=at_size hp h2
 obtain ⟨ra, _⟩:=nx (x := -(k : Int)) la (by omega) (by omega)
 obtain ⟨rb, _⟩:=nx (x := -(k : Int)) lb (by omega) (by omega)
 have ca:=atLo_cut (S:=Z1) hp
 have cb:=atHi_cut (S:=Z2) hp
 have g11:=fun x W h (hW : Below w.heap.size w W) => i10out_yes (mkM (Z1 - 2097152) (-(p : Int))) (mkE (Z1 - 2097152) (-(p : Int))) (mkM (Z2 + 2097152) (-(p : Int))) (mkE (Z2 + 2097152) (-(p : Int))) (k : Int) x W h (by omega) (by omega) (by omega) (by omega) (by omega) (by omega) (permN (by omega)) (by rw [l5, ca]; exact ra) (by rw [k5, cb]; exact rb) (hT.mono hW)
 rw [l5, k5, ca, cb] at g11
 clear ca cb ra rb la lb l1 l2 l3 l4 l5 k1 k2 k3 k4 k5 al ah b1 b2 b3 c1' c2' c3' r1 r2 r3 s1 s2 s3 t1 t2 t3 a15 hpy hpc u1 u2 u3 y1 y2 y3 h1 h2 hp hk hT hx hy hn hn2 hq
 generalize mkM (Z1 - 2097152) (-(p : Int)) = Mo at *
 generalize mkE (Z1 - 2097152) (-(p : Int)) = Eo at *
 generalize mkM (Z2 + 2097152) (-(p : Int)) = Mi at *
 generalize mkE (Z2 + 2097152) (-(p : Int)) = Ei at *
 generalize mkM (atLo Z1) (-(k : Int)) = Ma at *
 generalize mkE (atLo Z1) (-(k : Int)) = Ea at *
 generalize mkM (atHi Z2) (-(k : Int)) = Nb at *
 generalize mkE (atHi Z2) (-(k : Int)) = Fb at *
 generalize mkM Z1 (-(p : Int)) = M1 at *
 generalize mkE Z1 (-(p : Int)) = E1 at *
 generalize mkM Z2 (-(p : Int)) = M2 at *
 generalize mkE Z2 (-(p : Int)) = E2 at *
 generalize mkM 2097152 (-(p : Int)) = Mu at *
 generalize mkE 2097152 (-(p : Int)) = Eu at *
 have G8:=Hd9 g8
 have G9:=Hd9 g9
 have G10:=Hd9 g10
 have G11:=Hd9 g11
 clear g8 g9 g10 g11
 go_enter Tryz.func79, Tryz.ntmps79
 have L:=(((L0.varD (w.heap.size) (by simp) (ng M1) A (zl M1) c E1).varD (w.heap.size + 1) (by simp) (ng M2) B (zl M2) d E2).varI (w.heap.size + 2) (by simp) false none 0 0 0 false none 0 0 0)
 obtain ⟨c20,c21,c22⟩:=L.tl.tl.b0.a3
 (try go_wp2_with fail)
 refine (G8.out _ L.below).mono ?_
 rintro e w1 ⟨v9, rfl, iz, be⟩
 clear c20 c21 c22
 obtain ⟨A4, c4, rfl, _, in9⟩:=iz.form
 replace L:=(L.step be).n in9
 clear be iz in9
 have hl9:=L.b0.lt
 replace L:=L.varD w1.heap.size rfl (ng Mu) A4 (zl Mu) c4 Eu
 obtain ⟨c00,c01,c02⟩:=L.b0.a3
 obtain ⟨c30,c31,c32⟩:=L.tl.tl.tl.b0.a3
 go_wp2_with fail
 clear c00 c01 c02 c30 c31 c32
 obtain ⟨gm, hgm⟩:=nm9 (w1.heap.size)
 rw [hgm] at L hl9 ⊢
 clear hgm
 have hl_gm:=hl9
 clear hl9
 refine (G9.out _ _ _ (isD_n (m:=M1) (e:=E1) (s:=.slice A (zl M1) c) (L.getN (by simp))) (isD_n (m:=Mu) (e:=Eu) (s:=.slice A4 (zl Mu) c4) (L.getN (by simp))) L.below).mono ?_
 rintro e w2 ⟨v9, rfl, iz, be⟩
 obtain ⟨A5, c5, rfl, _, in9⟩:=iz.form
 replace L:=(L.step be).n in9
 clear be iz in9
 have hl9:=L.b0.lt
 replace L:=L.varD w2.heap.size rfl (ng Mo) A5 (zl Mo) c5 Eo
 obtain ⟨c10,c11,c12⟩:=L.tl.b0.a3
 obtain ⟨c30,c31,c32⟩:=L.tl.tl.tl.b0.a3
 go_wp2_with fail
 clear c10 c11 c12 c30 c31 c32
 obtain ⟨gl, hgl⟩:=nm9 (w2.heap.size)
 rw [hgl] at L hl9 ⊢
 clear hgl
 have hl_gl:=hl9
 clear hl9
 refine (G10.out _ _ _ (isD_n (m:=M2) (e:=E2) (s:=.slice B (zl M2) d) (L.getN (by simp))) (isD_n (m:=Mu) (e:=Eu) (s:=.slice A4 (zl Mu) c4) (L.getN (by simp))) L.below).mono ?_
 rintro e w3 ⟨v9, rfl, iz, be⟩
 obtain ⟨A6, c6, rfl, _, in9⟩:=iz.form
 replace L:=(L.step be).n in9
 clear be iz in9
 have hl9:=L.b0.lt
 replace L:=L.varD w3.heap.size rfl (ng Mi) A6 (zl Mi) c6 Ei
 obtain ⟨c00,c01,c02⟩:=L.b0.a3
 obtain ⟨c10,c11,c12⟩:=L.tl.b0.a3
 go_wp2_with fail
 clear c00 c01 c02 c10 c11 c12
 obtain ⟨gh, hgh⟩:=nm9 (w3.heap.size)
 rw [hgh] at L hl9 ⊢
 clear hgh
 have hl_gh:=hl9
 clear hl9
 refine (G11.out _ _ (isI_n (m:=Mo) (e:=Eo) (n:=Mi) (f:=Ei) (s:=.slice A5 (zl Mo) c5) (t:=.slice A6 (zl Mi) c6) (L.getN (by simp)) (L.getN (by simp))) L.below).mono ?_
 rintro e w4 ⟨v2, rfl, ii, be⟩
 obtain ⟨A8, c8, B8, d8, rfl, ia, ib⟩:=ii.form
 replace L:=((L.step be).n ib).n ia
 clear be ii ia ib
 have L9:=L.subx (ns':=[(.slice A8 (zl Ma) c8, Ma.natAbs), (.slice B8 (zl Nb) d8, Nb.natAbs)]) (bs':=[(w.heap.size + 1 + 1, 28, #[.bool false, .slice none 0 0, .int .i64 0, .bool false, .slice none 0 0, .int .i64 0])]) (by simp) (by simp)
 clear L
 have L:=L9
 clear L9
 obtain ⟨c00,c01,c02,c03,c04,c05⟩:=L.b0.a6
 obtain ⟨f00,f01,f02,f03,f04,f05⟩:=L.b0.f6
 go_wp2_with fail
 clear c00 f00 c01 f01 c02 f02 c03 f03 c04 f04 c05 f05
 have LP:=L.putI (by omega) (by first | (simp; done) | (simp; omega)) (ng Ma) A8 (zl Ma) c8 Ea (ng Nb) B8 (zl Nb) d8 Fb
 obtain ⟨k0,k1,k2,k3,k4,k5⟩:=LP.b0.a6
 unfold put6 at k0 k1 k2 k3 k4 k5
 exact bodyPost_ret (v:=.tuple #[.agg #[.bool (ng Ma), .slice A8 (zl Ma) c8, .int .i64 Ea, .bool (ng Nb), .slice B8 (zl Nb) d8, .int .i64 Fb], .int .i64 0]) (by simp [results, Tryz.results79, go_sem, k0, k1, k2, k3, k4, k5]) rfl ⟨_, rfl, isI_n (LP.getN (by simp)) (LP.getN (by simp)), LP.below⟩
theorem tatan_yes (m e n f : Int) (k : Nat) (vx : Value) (w : World) (hx : IsI w vx m e n f) (lm : zl m ≤ 100) (ln : zl n ≤ 100) (he : -4000 ≤ e ∧ e ≤ 4000) (hf : -4000 ≤ f ∧ f ≤ 4000) (hv : Dv m e) (hv2 : Dv n f) (hsm : smallB m e n f = true) (hk : k ≤ 600) (hT : Tab w) :
  Calls Tryz.prog 21 #[vx, .int .i64 (k : Int)] w (RetTn w k m e n f):=by
 obtain ⟨A, c, B, d, rfl, hn1, hn2⟩:=hx.form
 have L0:=((Lq.mk0 w).n hn2).n hn1
 have HT:=Hd9 (fun W (hW : Below w.heap.size w W) => hT.mono hW)
 have HP0:=fun W => tperm_any (k : Int) W
 rw [okA_yes (by omega)] at HP0
 have HP:=Hd9 HP0
 have hmn : dcm m e n f ≤ 0:=by
  unfold smallB at hsm
  rw [Bool.and_eq_true] at hsm
  exact of_decide_eq_true hsm.1
 have g3:=fun x W h => asmall_any m e n f x W h (by omega) (by omega) (by omega) (by omega) hv hv2
 rw [hsm] at g3
 obtain ⟨p, hp⟩:=nm9 (k + 32)
 have w1 : IntKind.i64.wrap ((k : Int) + 32) = (p : Int):=by rw [IntKind.wrap_i64]; omega
 have g5:=fun x W h (hW : Below w.heap.size w W) => ttan_any m e p x W h hv (by omega) (by omega) (by omega) (hT.mono hW)
 have g6:=fun x y W h i => dcmp_any m e n f x y W h i (by omega) (by omega) (by omega) (by omega)
 rw [show cmpI (m * 2 ^ (e - min e f).toNat) (n * 2 ^ (f - min e f).toNat) = dcm m e n f from rfl] at g6
 have g7:=fun x W h (hW : Below w.heap.size w W) => ttan_any n f p x W h hv2 (by omega) (by omega) (by omega) (hT.mono hW)
 have HQ:=Hd9 (And.intro hp hk)
 have hcase : (dcm m e n f < 0) ∨ (m = n ∧ e = f ∧ dcm m e n f = 0):=by
  rcases Int.lt_or_le (dcm m e n f) 0 with q9 | q9
  ·exact Or.inl q9
  ·have q0 : dcm m e n f = 0:=by omega
   obtain ⟨a, b⟩:=(dcm_eq hv hv2).1 q0
   exact Or.inr ⟨a, b, q0⟩
 generalize dcm m e n f = cn at *
 clear hmn hk hv hv2 lm ln he hf hsm hT hx HP0 hp
 have G3:=Hd9 g3
 have G5:=Hd9 g5
 have G6:=Hd9 g6
 have G7:=Hd9 g7
 clear g3 g5 g6 g7
 rcases hcase with hlt | ⟨rfl, rfl, hlt⟩
 ·have d2 : decide (cn < 0) = true:=decide_eq_true hlt
  go_enter Tryz.func21, Tryz.ntmps21
  have L:=((L0.varI (w.heap.size) (by simp) (ng m) A (zl m) c e (ng n) B (zl n) d f).varI (w.heap.size + 1) (by simp) false none 0 0 0 false none 0 0 0)
  obtain ⟨c10,c11,c12,c13,c14,c15⟩:=L.tl.b0.a6
  (try go_wp2_with fail)
  refine (HP.out _).mono ?_
  rintro e9 w' ⟨rfl, rfl⟩
  (try go_wp2_with fail)
  refine (G3.out _ _ (isI_n (m:=m) (e:=e) (n:=n) (f:=f) (s:=.slice A (zl m) c) (t:=.slice B (zl n) d) (L.getN (by simp)) (L.getN (by simp)))).mono ?_
  rintro e w1 ⟨rfl, be⟩
  clear c10 c11 c12 c13 c14 c15
  replace L:=L.step be
  clear be
  obtain ⟨c10,c11,c12,c13,c14,c15⟩:=L.tl.b0.a6
  (try go_wp2_with fail)
  refine (G5.out _ _ (isD_n (m:=m) (e:=e) (s:=.slice A (zl m) c) (L.getN (by simp))) L.below).mono ?_
  rintro e w2 ⟨s1, ok1, hs1, v9, rfl, iz, be⟩
  clear c10 c11 c12 c13 c14 c15
  obtain ⟨A2, c2, rfl, _, in9⟩:=iz.form
  replace L:=(L.step be).n in9
  clear be iz in9
  have hl9:=L.b0.lt
  obtain ⟨M1, hM1⟩:=nm9 (mkM s1 (-(p : Int)))
  obtain ⟨E1, hE1⟩:=nm9 (mkE s1 (-(p : Int)))
  rw [hM1] at L ⊢
  rw [hE1]
  have HW1:=Hd9 (And.intro ok1 (And.intro hs1 (And.intro hM1 hE1)))
  clear ok1 hs1 hM1 hE1
  replace L:=L.varD w2.heap.size rfl (ng M1) A2 (zl M1) c2 E1
  obtain ⟨c00,c01,c02⟩:=L.b0.a3
  replace L:=L.varD (w2.heap.size + 1) (by simp) (ng M1) A2 (zl M1) c2 E1
  obtain ⟨d00,d01,d02,d03,d04,d05⟩:=L.tl.tl.tl.b0.a6
  (try go_wp2_with fail)
  clear c00 c01 c02 d00 d01 d02 d03 d04 d05
  obtain ⟨g1, hg1⟩:=nm9 (w2.heap.size)
  rw [hg1] at L hl9 ⊢
  clear hg1
  have hl_g1:=hl9
  clear hl9
  refine (G6.out _ _ _ (isD_n (m:=m) (e:=e) (s:=.slice A (zl m) c) (L.getN (by simp))) (isD_n (m:=n) (e:=f) (s:=.slice B (zl n) d) (L.getN (by simp)))).mono ?_
  rintro e w3 ⟨rfl, be⟩
  replace L:=L.step be
  clear be
  obtain ⟨c30,c31,c32,c33,c34,c35⟩:=L.tl.tl.tl.b0.a6
  (try go_wp2_with fail)
  refine (G7.out _ _ (isD_n (m:=n) (e:=f) (s:=.slice B (zl n) d) (L.getN (by simp))) L.below).mono ?_
  rintro e w4 ⟨s2, ok2, hs2, v9, rfl, iz, be⟩
  clear c30 c31 c32 c33 c34 c35
  obtain ⟨A3, c3, rfl, _, in9⟩:=iz.form
  replace L:=(L.step be).n in9
  clear be iz in9
  obtain ⟨M2, hM2⟩:=nm9 (mkM s2 (-(p : Int)))
  obtain ⟨E2, hE2⟩:=nm9 (mkE s2 (-(p : Int)))
  rw [hM2] at L ⊢
  rw [hE2]
  have HW2:=Hd9 (And.intro ok2 (And.intro hs2 (And.intro hM2 hE2)))
  clear ok2 hs2 hM2 hE2
  obtain ⟨c00,c01,c02⟩:=L.b0.a3
  obtain ⟨f00,f01,f02⟩:=L.b0.f3
  have P:=L.putD (by omega) (by first | (simp; done) | (simp; omega)) (ng M2) A3 (zl M2) c3 E2
  obtain ⟨p00,p01,p02⟩:=P.b0.a3
  obtain ⟨p10,p11,p12⟩:=P.tl.b0.a3
  unfold put3 at p00 p01 p02 p10 p11 p12 P
  (try go_wp2_with fail)
  replace L:=P
  clear P p00 p01 p02 p10 p11 p12
  clear c00 f00 c01 f01 c02 f02
  obtain ⟨hp, hk⟩:=HQ.out
  obtain ⟨ok1, hs1, hM1, hE1⟩:=HW1.out
  obtain ⟨ok2, hs2, hM2, hE2⟩:=HW2.out
  have g8:=fun x y W h i (hW : Below w.heap.size w W) => taround_any s1 s2 k p x y W h i hs1 hs2 hp.symm hk (HT.out W hW)
  rw [hM1, hE1] at g8
  rw [hM2, hE2] at g8
  obtain ⟨za, _⟩:=at_size hp.symm hs1
  obtain ⟨_, zb⟩:=at_size hp.symm hs2
  have hR1:=atLo_en hp.symm ok1
  have hR2:=atHi_en hp.symm ok2
  have hR3:=at_tight s1
  obtain ⟨a, ha⟩:=nm9 (atLo s1)
  obtain ⟨b, hb⟩:=nm9 (atHi s2)
  
  rw [ha] at g8 za hR1
  rw [hb] at g8 zb hR2
  have HR:=Hd9 (And.intro hR1 (And.intro hR2 (And.intro za (And.intro zb hR3))))
  obtain ⟨Ma, hMa⟩:=nm9 (mkM a (-(k : Int)))
  obtain ⟨Ea, hEa⟩:=nm9 (mkE a (-(k : Int)))
  obtain ⟨Nb, hNb⟩:=nm9 (mkM b (-(k : Int)))
  obtain ⟨Fb, hFb⟩:=nm9 (mkE b (-(k : Int)))
  rw [hMa, hEa, hNb, hFb] at g8
  have HN:=Hd9 (And.intro (And.intro hMa hEa) (And.intro hNb hFb))
  have G8:=Hd9 g8
  clear g8 hMa hEa hNb hFb ha hb hR1 hR2 hR3 za zb ok1 hs1 hM1 hE1 hp hk ok2 hs2 hM2 hE2
  (try go_wp2_with fail)
  refine (G8.out _ _ _ (isD_n (m:=M1) (e:=E1) (s:=.slice A2 (zl M1) c2) (L.getN (by simp))) (isD_n (m:=M2) (e:=E2) (s:=.slice A3 (zl M2) c3) (L.getN (by simp))) L.below).mono ?_
  rintro e w5 ⟨v2, rfl, ii, be⟩
  obtain ⟨A8, c8, B8, d8, rfl, ia, ib⟩:=ii.form
  replace L:=((L.step be).n ib).n ia
  clear be ii ia ib
  have hR:=HR.out
  obtain ⟨⟨hMa, hEa⟩, hNb, hFb⟩:=HN.out
  subst hMa hEa hNb hFb
  have L9:=L.subx (ns':=[(.slice A8 (zl (mkM a (-(k : Int)))) c8, (mkM a (-(k : Int))).natAbs), (.slice B8 (zl (mkM b (-(k : Int)))) d8, (mkM b (-(k : Int))).natAbs)]) (bs':=[(w.heap.size + 1, 28, #[.bool false, .slice none 0 0, .int .i64 0, .bool false, .slice none 0 0, .int .i64 0])]) (by simp) (by simp)
  clear L
  have L:=L9
  clear L9
  obtain ⟨c00,c01,c02,c03,c04,c05⟩:=L.b0.a6
  obtain ⟨f00,f01,f02,f03,f04,f05⟩:=L.b0.f6
  go_wp2_with fail
  clear c00 f00 c01 f01 c02 f02 c03 f03 c04 f04 c05 f05
  have LP:=L.putI (by omega) (by first | (simp; done) | (simp; omega)) (ng (mkM a (-(k : Int)))) A8 (zl (mkM a (-(k : Int)))) c8 (mkE a (-(k : Int))) (ng (mkM b (-(k : Int)))) B8 (zl (mkM b (-(k : Int)))) d8 (mkE b (-(k : Int)))
  obtain ⟨k0,k1,k2,k3,k4,k5⟩:=LP.b0.a6
  unfold put6 at k0 k1 k2 k3 k4 k5
  exact bodyPost_ret (v:=.tuple #[.agg #[.bool (ng (mkM a (-(k : Int)))), .slice A8 (zl (mkM a (-(k : Int)))) c8, .int .i64 (mkE a (-(k : Int))), .bool (ng (mkM b (-(k : Int)))), .slice B8 (zl (mkM b (-(k : Int)))) d8, .int .i64 (mkE b (-(k : Int)))], .int .i64 0]) (by simp [results, Tryz.results21, go_sem, k0, k1, k2, k3, k4, k5]) rfl ⟨a, b, ⟨hR.1, hR.2.1, hR.2.2.1, hR.2.2.2.1⟩, _, rfl, isI_n (LP.getN (by simp)) (LP.getN (by simp)), LP.below⟩
 ·have d2 : decide (cn < 0) = false:=decide_eq_false (by omega)
  go_enter Tryz.func21, Tryz.ntmps21
  have L:=((L0.varI (w.heap.size) (by simp) (ng m) A (zl m) c e (ng m) B (zl m) d e).varI (w.heap.size + 1) (by simp) false none 0 0 0 false none 0 0 0)
  obtain ⟨c10,c11,c12,c13,c14,c15⟩:=L.tl.b0.a6
  (try go_wp2_with fail)
  refine (HP.out _).mono ?_
  rintro e9 w' ⟨rfl, rfl⟩
  (try go_wp2_with fail)
  refine (G3.out _ _ (isI_n (m:=m) (e:=e) (n:=m) (f:=e) (s:=.slice A (zl m) c) (t:=.slice B (zl m) d) (L.getN (by simp)) (L.getN (by simp)))).mono ?_
  rintro e w1 ⟨rfl, be⟩
  clear c10 c11 c12 c13 c14 c15
  replace L:=L.step be
  clear be
  obtain ⟨c10,c11,c12,c13,c14,c15⟩:=L.tl.b0.a6
  (try go_wp2_with fail)
  refine (G5.out _ _ (isD_n (m:=m) (e:=e) (s:=.slice A (zl m) c) (L.getN (by simp))) L.below).mono ?_
  rintro e w2 ⟨s1, ok1, hs1, v9, rfl, iz, be⟩
  clear c10 c11 c12 c13 c14 c15
  obtain ⟨A2, c2, rfl, _, in9⟩:=iz.form
  replace L:=(L.step be).n in9
  clear be iz in9
  have hl9:=L.b0.lt
  obtain ⟨M1, hM1⟩:=nm9 (mkM s1 (-(p : Int)))
  obtain ⟨E1, hE1⟩:=nm9 (mkE s1 (-(p : Int)))
  rw [hM1] at L ⊢
  rw [hE1]
  have HW1:=Hd9 (And.intro ok1 (And.intro hs1 (And.intro hM1 hE1)))
  clear ok1 hs1 hM1 hE1
  replace L:=L.varD w2.heap.size rfl (ng M1) A2 (zl M1) c2 E1
  obtain ⟨c00,c01,c02⟩:=L.b0.a3
  replace L:=L.varD (w2.heap.size + 1) (by simp) (ng M1) A2 (zl M1) c2 E1
  obtain ⟨d00,d01,d02,d03,d04,d05⟩:=L.tl.tl.tl.b0.a6
  (try go_wp2_with fail)
  clear c00 c01 c02 d00 d01 d02 d03 d04 d05
  obtain ⟨g1, hg1⟩:=nm9 (w2.heap.size)
  rw [hg1] at L hl9 ⊢
  clear hg1
  have hl_g1:=hl9
  clear hl9
  refine (G6.out _ _ _ (isD_n (m:=m) (e:=e) (s:=.slice A (zl m) c) (L.getN (by simp))) (isD_n (m:=m) (e:=e) (s:=.slice B (zl m) d) (L.getN (by simp)))).mono ?_
  rintro e w3 ⟨rfl, be⟩
  replace L:=L.step be
  clear be
  obtain ⟨c00,c01,c02⟩:=L.b0.a3
  obtain ⟨c10,c11,c12⟩:=L.tl.b0.a3
  (try go_wp2_with fail)
  clear c00 c01 c02 c10 c11 c12
  obtain ⟨hp, hk⟩:=HQ.out
  obtain ⟨ok1, hs1, hM1, hE1⟩:=HW1.out
  have g8:=fun x y W h i (hW : Below w.heap.size w W) => taround_any s1 s1 k p x y W h i hs1 hs1 hp.symm hk (HT.out W hW)
  rw [hM1, hE1] at g8
  obtain ⟨za, _⟩:=at_size hp.symm hs1
  obtain ⟨_, zb⟩:=at_size hp.symm hs1
  have hR1:=atLo_en hp.symm ok1
  have hR2:=atHi_en hp.symm ok1
  have hR3:=at_tight s1
  obtain ⟨a, ha⟩:=nm9 (atLo s1)
  obtain ⟨b, hb⟩:=nm9 (atHi s1)
  rw [ha, hb] at hR3
  rw [ha] at g8 za hR1
  rw [hb] at g8 zb hR2
  have HR:=Hd9 (And.intro hR1 (And.intro hR2 (And.intro za (And.intro zb hR3))))
  obtain ⟨Ma, hMa⟩:=nm9 (mkM a (-(k : Int)))
  obtain ⟨Ea, hEa⟩:=nm9 (mkE a (-(k : Int)))
  obtain ⟨Nb, hNb⟩:=nm9 (mkM b (-(k : Int)))
  obtain ⟨Fb, hFb⟩:=nm9 (mkE b (-(k : Int)))
  rw [hMa, hEa, hNb, hFb] at g8
  have HN:=Hd9 (And.intro (And.intro hMa hEa) (And.intro hNb hFb))
  have G8:=Hd9 g8
  clear g8 hMa hEa hNb hFb ha hb hR1 hR2 hR3 za zb ok1 hs1 hM1 hE1 hp hk
  (try go_wp2_with fail)
  refine (G8.out _ _ _ (isD_n (m:=M1) (e:=E1) (s:=.slice A2 (zl M1) c2) (L.getN (by simp))) (isD_n (m:=M1) (e:=E1) (s:=.slice A2 (zl M1) c2) (L.getN (by simp))) L.below).mono ?_
  rintro e w4 ⟨v2, rfl, ii, be⟩
  obtain ⟨A8, c8, B8, d8, rfl, ia, ib⟩:=ii.form
  replace L:=((L.step be).n ib).n ia
  clear be ii ia ib
  have hR:=HR.out
  obtain ⟨⟨hMa, hEa⟩, hNb, hFb⟩:=HN.out
  subst hMa hEa hNb hFb
  have L9:=L.subx (ns':=[(.slice A8 (zl (mkM a (-(k : Int)))) c8, (mkM a (-(k : Int))).natAbs), (.slice B8 (zl (mkM b (-(k : Int)))) d8, (mkM b (-(k : Int))).natAbs)]) (bs':=[(w.heap.size + 1, 28, #[.bool false, .slice none 0 0, .int .i64 0, .bool false, .slice none 0 0, .int .i64 0])]) (by simp) (by simp)
  clear L
  have L:=L9
  clear L9
  obtain ⟨c00,c01,c02,c03,c04,c05⟩:=L.b0.a6
  obtain ⟨f00,f01,f02,f03,f04,f05⟩:=L.b0.f6
  go_wp2_with fail
  clear c00 f00 c01 f01 c02 f02 c03 f03 c04 f04 c05 f05
  have LP:=L.putI (by omega) (by first | (simp; done) | (simp; omega)) (ng (mkM a (-(k : Int)))) A8 (zl (mkM a (-(k : Int)))) c8 (mkE a (-(k : Int))) (ng (mkM b (-(k : Int)))) B8 (zl (mkM b (-(k : Int)))) d8 (mkE b (-(k : Int)))
  obtain ⟨k0,k1,k2,k3,k4,k5⟩:=LP.b0.a6
  unfold put6 at k0 k1 k2 k3 k4 k5
  exact bodyPost_ret (v:=.tuple #[.agg #[.bool (ng (mkM a (-(k : Int)))), .slice A8 (zl (mkM a (-(k : Int)))) c8, .int .i64 (mkE a (-(k : Int))), .bool (ng (mkM b (-(k : Int)))), .slice B8 (zl (mkM b (-(k : Int)))) d8, .int .i64 (mkE b (-(k : Int)))], .int .i64 0]) (by simp [results, Tryz.results21, go_sem, k0, k1, k2, k3, k4, k5]) rfl ⟨a, b, ⟨hR.1, hR.2.1, hR.2.2.1, hR.2.2.2.1⟩, _, rfl, isI_n (LP.getN (by simp)) (LP.getN (by simp)), LP.below⟩
theorem trecip_arg (n k : Int) (w : World) (hk : okA k = false ∨ n < 2 ∨ 1000000 < n) :
  Calls Tryz.prog 30 #[.int .i64 n, .int .i64 k] w (RetIE w 0 0 0 0 1):=by
 have HP0:=fun W => tperm_any k W
 have HP:=Hd9 HP0
 clear HP0
 obtain ⟨b, hb⟩:=nm9 (okA k)
 rw [hb] at HP hk
 clear hb
 by_cases q1 : b = false
 ·subst q1
  go_enter Tryz.func30, Tryz.ntmps30
  have L:=((Lq.mk0 w).varI (w.heap.size) (by simp) false none 0 0 0 false none 0 0 0)
  obtain ⟨c00,c01,c02,c03,c04,c05⟩:=L.b0.a6
  obtain ⟨f00,f01,f02,f03,f04,f05⟩:=L.b0.f6
  (try go_wp2_with fail)
  refine (HP.out _).mono ?_
  rintro e9 w' ⟨rfl, rfl⟩
  (try go_wp2_with fail)
  exact bodyPost_ret (v:=.tuple #[.agg #[.bool false, .slice none 0 0, .int .i64 0, .bool false, .slice none 0 0, .int .i64 0], .int .i64 1]) (by simp [results, Tryz.results30, go_sem, c00, c01, c02, c03, c04, c05]) rfl ⟨_, rfl, isI_zero _, L.below⟩
 ·have hb : b = true:=by cases b <;> simp_all
  subst hb
  have hk2 : n < 2 ∨ 1000000 < n:=hk.resolve_left (by simp)
  by_cases q2 : n < 2
  ·skip
   go_enter Tryz.func30, Tryz.ntmps30
   have L:=((Lq.mk0 w).varI (w.heap.size) (by simp) false none 0 0 0 false none 0 0 0)
   obtain ⟨c00,c01,c02,c03,c04,c05⟩:=L.b0.a6
   obtain ⟨f00,f01,f02,f03,f04,f05⟩:=L.b0.f6
   (try go_wp2_with fail)
   refine (HP.out _).mono ?_
   rintro e9 w' ⟨rfl, rfl⟩
   (try go_wp2_with fail)
   exact bodyPost_ret (v:=.tuple #[.agg #[.bool false, .slice none 0 0, .int .i64 0, .bool false, .slice none 0 0, .int .i64 0], .int .i64 1]) (by simp [results, Tryz.results30, go_sem, c00, c01, c02, c03, c04, c05]) rfl ⟨_, rfl, isI_zero _, L.below⟩
  ·have q3 : 1000000 < n:=by omega
   have q4 : ¬ n < 2:=by omega
   go_enter Tryz.func30, Tryz.ntmps30
   have L:=((Lq.mk0 w).varI (w.heap.size) (by simp) false none 0 0 0 false none 0 0 0)
   obtain ⟨c00,c01,c02,c03,c04,c05⟩:=L.b0.a6
   obtain ⟨f00,f01,f02,f03,f04,f05⟩:=L.b0.f6
   (try go_wp2_with fail)
   refine (HP.out _).mono ?_
   rintro e9 w' ⟨rfl, rfl⟩
   (try go_wp2_with fail)
   exact bodyPost_ret (v:=.tuple #[.agg #[.bool false, .slice none 0 0, .int .i64 0, .bool false, .slice none 0 0, .int .i64 0], .int .i64 1]) (by simp [results, Tryz.results30, go_sem, c00, c01, c02, c03, c04, c05]) rfl ⟨_, rfl, isI_zero _, L.below⟩
theorem trecip_yes (n : Int) (k : Nat) (w : World) (h2 : 2 ≤ n) (h3 : n ≤ 1000000) (hk : k ≤ 600) (hT : Tab w) :
  Calls Tryz.prog 30 #[.int .i64 n, .int .i64 (k : Int)] w (RetRc w k ((n : Rat)⁻¹)):=by
 have HT:=Hd9 (fun W (hW : Below w.heap.size w W) => hT.mono hW)
 have HP0:=fun W => tperm_any (k : Int) W
 rw [okA_yes (by omega)] at HP0
 have HP:=Hd9 HP0
 obtain ⟨p, hp⟩:=nm9 (k + 32)
 have w1 : IntKind.i64.wrap ((k : Int) + 32) = (p : Int):=by rw [IntKind.wrap_i64]; omega
 have an : AbP n 20:=by
  have e : (2 : Nat) ^ 20 = 1048576:=by decide
  unfold AbP
  rw [e]
  omega
 obtain ⟨v1, v2, v3, v4⟩:=nx_int n p an (by omega)
 have g3:=fun W (hW : Below w.heap.size w W) => dof_any n W (by omega) (by omega) (hT.mono hW)
 rw [v1, v2] at g3
 have g5:=fun x W h (hW : Below w.heap.size w W) => tangle_any (n * 2 ^ p) p x W h (Int.mul_nonneg (by omega) (Int.le_of_lt (pow2_pos p))) v3 (by omega) (hT.mono hW)
 have hn0 : (0 : Rat) < (n : Rat):=Rat.intCast_lt_intCast.2 (show (0 : Int) < n by omega)
 have HE:=Hd9 (fun Z (h : AgI p (n * 2 ^ p) Z) => h.at (x:=(n : Rat)⁻¹) (Rat.inv_pos.2 hn0) (by rw [v4, Rat.inv_inv]; exact Rat.le_refl) (by rw [v4, Rat.inv_inv]; have:=dq_pos (-(p : Int)); grind))
 have d1 : ¬ n < 2:=by omega
 have d2 : ¬ 1000000 < n:=by omega
 have HQ:=Hd9 (And.intro hp hk)
 obtain ⟨MC, hMC⟩:=nm9 (mkM (n * 2 ^ p) (-(p : Int)))
 obtain ⟨EC, hEC⟩:=nm9 (mkE (n * 2 ^ p) (-(p : Int)))
 rw [hMC, hEC] at g3 g5
 have G3:=Hd9 g3
 have G5:=Hd9 g5
 clear g3 g5 hMC hEC v1 v2 v3 v4 an hn0 hk h2 h3 hT HP0 hp
 go_enter Tryz.func30, Tryz.ntmps30
 have L:=((Lq.mk0 w).varI (w.heap.size) (by simp) false none 0 0 0 false none 0 0 0)
 (try go_wp2_with fail)
 refine (HP.out _).mono ?_
 rintro e9 w' ⟨rfl, rfl⟩
 (try go_wp2_with fail)
 refine (G3.out _ L.below).mono ?_
 rintro e w1 ⟨v9, rfl, iz, be⟩
 obtain ⟨A1, c1, rfl, _, in9⟩:=iz.form
 replace L:=(L.step be).n in9
 clear be iz in9
 (try go_wp2_with fail)
 refine (G5.out _ _ (isD_n (m:=MC) (e:=EC) (s:=.slice A1 (zl MC) c1) (L.getN (by simp))) L.below).mono ?_
 rintro e w2 ⟨s1, ok1, hs1, v9, rfl, iz, be⟩
 obtain ⟨A2, c2, rfl, _, in9⟩:=iz.form
 replace L:=(L.step be).n in9
 clear be iz in9
 have hl9:=L.b0.lt
 obtain ⟨M1, hM1⟩:=nm9 (mkM s1 (-(p : Int)))
 obtain ⟨E1, hE1⟩:=nm9 (mkE s1 (-(p : Int)))
 rw [hM1] at L ⊢
 rw [hE1]
 have HW1:=Hd9 (And.intro (HE.out _ ok1) (And.intro hs1 (And.intro hM1 hE1)))
 clear ok1 hs1 hM1 hE1
 replace L:=L.varD w2.heap.size rfl (ng M1) A2 (zl M1) c2 E1
 obtain ⟨c00,c01,c02⟩:=L.b0.a3
 (try go_wp2_with fail)
 clear c00 c01 c02
 obtain ⟨g1, hg1⟩:=nm9 (w2.heap.size)
 rw [hg1] at L hl9 ⊢
 clear hg1
 have hl_g1:=hl9
 clear hl9
 obtain ⟨hp, hk⟩:=HQ.out
 obtain ⟨ok1, hs1, hM1, hE1⟩:=HW1.out
 have g8:=fun x y W h i (hW : Below w.heap.size w W) => taround_any s1 s1 k p x y W h i hs1 hs1 hp.symm hk (HT.out W hW)
 rw [hM1, hE1] at g8
 obtain ⟨za, _⟩:=at_size hp.symm hs1
 obtain ⟨_, zb⟩:=at_size hp.symm hs1
 have hR1:=atLo_en hp.symm ok1
 have hR2:=atHi_en hp.symm ok1
 have hR3:=at_tight s1
 obtain ⟨a, ha⟩:=nm9 (atLo s1)
 obtain ⟨b, hb⟩:=nm9 (atHi s1)
 rw [ha, hb] at hR3
 rw [ha] at g8 za hR1
 rw [hb] at g8 zb hR2
 have HR:=Hd9 (And.intro hR1 (And.intro hR2 (And.intro za (And.intro zb hR3))))
 obtain ⟨Ma, hMa⟩:=nm9 (mkM a (-(k : Int)))
 obtain ⟨Ea, hEa⟩:=nm9 (mkE a (-(k : Int)))
 obtain ⟨Nb, hNb⟩:=nm9 (mkM b (-(k : Int)))
 obtain ⟨Fb, hFb⟩:=nm9 (mkE b (-(k : Int)))
 rw [hMa, hEa, hNb, hFb] at g8
 have HN:=Hd9 (And.intro (And.intro hMa hEa) (And.intro hNb hFb))
 have G8:=Hd9 g8
 clear g8 hMa hEa hNb hFb ha hb hR1 hR2 hR3 za zb ok1 hs1 hM1 hE1 hp hk
 (try go_wp2_with fail)
 refine (G8.out _ _ _ (isD_n (m:=M1) (e:=E1) (s:=.slice A2 (zl M1) c2) (L.getN (by simp))) (isD_n (m:=M1) (e:=E1) (s:=.slice A2 (zl M1) c2) (L.getN (by simp))) L.below).mono ?_
 rintro e w3 ⟨v2, rfl, ii, be⟩
 obtain ⟨A8, c8, B8, d8, rfl, ia, ib⟩:=ii.form
 replace L:=((L.step be).n ib).n ia
 clear be ii ia ib
 have hR:=HR.out
 obtain ⟨⟨hMa, hEa⟩, hNb, hFb⟩:=HN.out
 subst hMa hEa hNb hFb
 have L9:=L.subx (ns':=[(.slice A8 (zl (mkM a (-(k : Int)))) c8, (mkM a (-(k : Int))).natAbs), (.slice B8 (zl (mkM b (-(k : Int)))) d8, (mkM b (-(k : Int))).natAbs)]) (bs':=[(w.heap.size, 28, #[.bool false, .slice none 0 0, .int .i64 0, .bool false, .slice none 0 0, .int .i64 0])]) (by simp) (by simp)
 clear L
 have L:=L9
 clear L9
 obtain ⟨c00,c01,c02,c03,c04,c05⟩:=L.b0.a6
 obtain ⟨f00,f01,f02,f03,f04,f05⟩:=L.b0.f6
 go_wp2_with fail
 clear c00 f00 c01 f01 c02 f02 c03 f03 c04 f04 c05 f05
 have LP:=L.putI (by omega) (by first | (simp; done) | (simp; omega)) (ng (mkM a (-(k : Int)))) A8 (zl (mkM a (-(k : Int)))) c8 (mkE a (-(k : Int))) (ng (mkM b (-(k : Int)))) B8 (zl (mkM b (-(k : Int)))) d8 (mkE b (-(k : Int)))
 obtain ⟨k0,k1,k2,k3,k4,k5⟩:=LP.b0.a6
 unfold put6 at k0 k1 k2 k3 k4 k5
 exact bodyPost_ret (v:=.tuple #[.agg #[.bool (ng (mkM a (-(k : Int)))), .slice A8 (zl (mkM a (-(k : Int)))) c8, .int .i64 (mkE a (-(k : Int))), .bool (ng (mkM b (-(k : Int)))), .slice B8 (zl (mkM b (-(k : Int)))) d8, .int .i64 (mkE b (-(k : Int)))], .int .i64 0]) (by simp [results, Tryz.results30, go_sem, k0, k1, k2, k3, k4, k5]) rfl ⟨a, b, ⟨hR.1, hR.2.1, hR.2.2.1, hR.2.2.2.1, hR.2.2.2.2⟩, _, rfl, isI_n (LP.getN (by simp)) (LP.getN (by simp)), LP.below⟩
def RowZ (w : World) (v : Value) (l : List Int) : Prop:=∃ g c, v = .slice (some ⟨g, 0, none⟩) l.length c ∧ g < w.heap.size ∧ ∀ (j : Nat) (p : Int), l[j]? = some p → ∃ A c, w.cell? ⟨g, 2 * j, none⟩ = some (.bool (ng p)) ∧ w.cell? ⟨g, 2 * j + 1, none⟩ = some (.slice A (zl p) c) ∧ IsZ w (.agg #[.bool (ng p), .slice A (zl p) c]) p
theorem RowZ.mono {w w' : World} {v : Value} {l : List Int} (h : RowZ w v l) (hb : Below w.heap.size w w') : RowZ w' v l:=by
 obtain ⟨g, c, r, hg, h⟩:=h
 refine ⟨g, c, r, Nat.lt_of_lt_of_le hg hb.size, fun j p hp => ?_⟩
 obtain ⟨A, c, h1, h2, h3⟩:=h j p hp
 exact ⟨A, c, (hb.cell (p:=⟨g, 2 * j, none⟩) hg).trans h1, (hb.cell (p:=⟨g, 2 * j + 1, none⟩) hg).trans h2, h3.mono hb⟩
def LoopZ (l : List Int) (t : Nat) (a1 a2 : Int) : Prop:=a1 ∈ l ∧ a2 ∈ l ∧ ∀ (j : Nat) (p : Int), j < t → l[j]? = some p → a1 ≤ p ∧ p ≤ a2
theorem LoopZ.all {l : List Int} {a1 a2 : Int} {n : Nat} (hn : l.length = n) (h : LoopZ l n a1 a2) : (∀ q ∈ l, a1 ≤ q) ∧ ∀ q ∈ l, q ≤ a2:=by
 constructor <;> intro q hq <;> obtain ⟨j, hj, e⟩:=List.getElem_of_mem hq
 ·exact (h.2.2 j q (by omega) (by rw [← e]; exact List.getElem?_eq_getElem hj)).1
 ·exact (h.2.2 j q (by omega) (by rw [← e]; exact List.getElem?_eq_getElem hj)).2
structure ExS (v f t : Nat) (y : Rat) (a b p q : Int) : Prop where
 tf : t + f = v
 tm : SpC a b v (tm t y)
 sm : SpC p q v (esm (t + 1) y)
 aa : AbP a f
 bb : AbP b f
 pp : p.natAbs + 2 ^ f ≤ 2 ^ (v + 1)
 qq : q.natAbs + 2 ^ f ≤ 2 ^ (v + 1)
theorem ExS.first (v : Nat) (y : Rat) : ExS v v 0 y (2 ^ v) (2 ^ v) (2 ^ v) (2 ^ v):=by
 have h:=SpC.of 1 v
 rw [Int.one_mul, show ((1 : Int) : Rat) = 1 from rfl] at h
 have e : ((2 : Int) ^ v).natAbs = 2 ^ v:=by rw [Int.natAbs_pow]; rfl
 have h2 : ((2 : Int) ^ v).natAbs + 2 ^ v ≤ 2 ^ (v + 1):=by rw [e, Nat.pow_succ]; omega
 refine ⟨by omega, h, ?_, Nat.le_of_eq e, Nat.le_of_eq e, h2, h2⟩
 rwa [show esm (0 + 1) y = 1 from by show (0 : Rat) + 1 = 1; grind]
def sqbits (v i : Nat) : Nat:=v + (3 * 2 ^ i - 1)
structure ExD (v i : Nat) (y : Rat) (a b : Int) : Prop where
 rs : RSp a b v ((((2 : Nat) ^ i : Nat) : Rat) * y)
 aa : AbP a (sqbits v i)
 bb : AbP b (sqbits v i)
theorem ExD.first {v : Nat} {y : Rat} {a b : Int} (h : RSp a b v y) (ha : AbP a (sqbits v 0)) (hb : AbP b (sqbits v 0)) : ExD v 0 y a b:=
 ⟨by rwa [show (((2 : Nat) ^ 0 : Nat) : Rat) * y = y from by rw [Nat.pow_zero]; exact Rat.one_mul y], ha, hb⟩
theorem small14 {m e n f : Int} (lm : zl m ≤ 60) (ln : zl n ≤ 60) (he : -8000 ≤ e ∧ e ≤ 3000) (hf : -8000 ≤ f ∧ f ≤ 3000) (hle : dcm m e n f ≤ 0) (tm : topZ m e ≤ 2048) (tn : topZ n f ≤ 2048) : smallB m e n f = true:=by
 have p8 : permB 8192 = true:=by decide
 unfold smallB onB
 rw [p8, decide_eq_true hle, decide_eq_true tm, decide_eq_true tn, decide_eq_true (show -8192 ≤ e by omega), decide_eq_true (show -8192 ≤ f by omega)]
 simp


theorem of16_any (a b : Int) (w : World) (h1 : -1000 ≤ a ∧ a ≤ 1000) (h2 : -1000 ≤ b ∧ b ≤ 1000) :
  Calls Tryz.prog 27 #[.int .i64 a, .int .i64 b] w (RetI6 w (mkM a 0) (mkE a 0) (mkM b 0) (mkE b 0)):=by
 have HA:=Hd9 (fun W => rof8_any a W (by omega) (by omega))
 have HB:=Hd9 (fun W => rof8_any b W (by omega) (by omega))
 generalize mkM a 0 = m at *
 generalize mkE a 0 = e at *
 generalize mkM b 0 = n at *
 generalize mkE b 0 = f at *
 clear h1 h2
 go_enter Tryz.func27, Tryz.ntmps27
 go_wp2_with fail
 have L:=((Lq.mk0 w).varI (w.heap.size) (by simp) false none 0 0 0 false none 0 0 0)
 obtain ⟨c00,c01,c02,c03,c04,c05⟩:=L.b0.a6
 obtain ⟨f00,f01,f02,f03,f04,f05⟩:=L.b0.f6
 (try go_wp2_with fail)
 refine (HA.out _).mono ?_
 rintro e w1 ⟨v1, rfl, id, be⟩
 clear c00 f00 c01 f01 c02 f02 c03 f03 c04 f04 c05 f05
 obtain ⟨A, c, rfl, _, in9⟩:=id.form
 replace L:=(L.step be).n in9
 clear be id in9
 obtain ⟨c00,c01,c02,c03,c04,c05⟩:=L.b0.a6
 obtain ⟨f00,f01,f02,f03,f04,f05⟩:=L.b0.f6
 (try go_wp2_with fail)
 refine (HB.out _).mono ?_
 rintro e w2 ⟨v2, rfl, id, be⟩
 clear c00 f00 c01 f01 c02 f02 c03 f03 c04 f04 c05 f05
 obtain ⟨B, d, rfl, _, in9⟩:=id.form
 replace L:=(L.step be).n in9
 clear be id in9
 obtain ⟨c00,c01,c02,c03,c04,c05⟩:=L.b0.a6
 obtain ⟨f00,f01,f02,f03,f04,f05⟩:=L.b0.f6
 (try go_wp2_with fail)
 have LP:=L.putI (by omega) (by first | (simp; done) | (simp; omega)) (ng m) A (zl m) c e (ng n) B (zl n) d f
 obtain ⟨k0,k1,k2,k3,k4,k5⟩:=LP.b0.a6
 unfold put6 at k0 k1 k2 k3 k4 k5
 exact bodyPost_ret (v:=.agg #[.bool (ng m), .slice A (zl m) c, .int .i64 e, .bool (ng n), .slice B (zl n) d, .int .i64 f]) (by simp [results, Tryz.results27, go_sem, k0, k1, k2, k3, k4, k5]) rfl ⟨_, rfl, isI_n (LP.getN (by simp)) (LP.getN (by simp)), LP.below⟩
theorem icm_meet16 {m e n f m2 e2 n2 f2 : Int} (h1 : dq m2 e2 ≤ dq n f) (h2 : dq m e ≤ dq n2 f2) : icm m e n f m2 e2 n2 f2 = 0:=by
 have h3 : dcm m2 e2 n f ≤ 0:=(dcm_le _ _ _ _).2 h1
 have h4 : dcm m e n2 f2 ≤ 0:=(dcm_le _ _ _ _).2 h2
 have h5:=dcm_swap m2 e2 n f
 unfold icm
 (repeat' split) <;> omega
theorem top_ub16 {m e : Int} {z : Nat} (hz : zl m ≤ z) (he : e ≤ 1000) (hb : 32 * (z : Int) + 1000 ≤ 2048) : topZ m e ≤ 2048:=by
 have h:=blen_le_len m.natAbs
 have e1 : zl m = len m.natAbs:=rfl
 unfold topZ
 split <;> omega
theorem small16 {m e n f : Int} (zm : zl m ≤ 32) (zn : zl n ≤ 32) (he : -8000 ≤ e ∧ e ≤ 1000) (hf : -8000 ≤ f ∧ f ≤ 1000) (hle : dcm m e n f ≤ 0) : smallB m e n f = true:=
 small14 (by omega) (by omega) (by omega) (by omega) hle (top_ub16 zm (by omega) (by omega)) (top_ub16 zn (by omega) (by omega))
theorem ea_eb {k : Nat} {a b : Int} {x y : Rat} (ha : EaA k a x) (hb : EaB k b y) (hxy : x ≤ y) : dq a (-(k : Int)) ≤ dq b (-(k : Int)):=at_le ha.1 hb.2 hxy
theorem gr16 {T : Int} {k j : Nat} (h : AbP T j) (hj : j ≤ 500) (hk : k ≤ 300) : zl (mkM T (-(k : Int))) ≤ j / 32 + 1 ∧ (-(k : Int) ≤ mkE T (-(k : Int)) ∧ mkE T (-(k : Int)) ≤ 532) ∧ Dv (mkM T (-(k : Int))) (mkE T (-(k : Int))) ∧ dq (mkM T (-(k : Int))) (mkE T (-(k : Int))) = dq T (-(k : Int)):=by
 obtain ⟨a1, a2, a3, a4, a5⟩:=nx (x := -(k : Int)) h (by omega) (by omega)
 exact ⟨by omega, by omega, a4, a5⟩
theorem awake16_any (w : World) (hT : Tab w) :
  Calls Tryz.prog 19 #[] w (RetB w true):=by
 have HT:=Hd9 (fun W (hW : Below w.heap.size w W) => hT.mono hW)
 have z0 : zl 0 ≤ 1:=len_le1 (by decide)
 have hd0 : dq 0 0 = 0:=dq_zero 0
 have dv0 : Dv 0 0:=Or.inl ⟨rfl, rfl⟩
 have g1:=fun W => of16_any 0 0 W (by omega) (by omega)
 rw [nf00.1, nf00.2] at g1
 have g2:=fun v W h (hW : Below w.heap.size w W) => tatan_yes 0 0 0 0 4 v W h (by omega) (by omega) (by omega) (by omega) dv0 dv0 (by decide +kernel) (by omega) (hT.mono hW)
 have g4:=fun W => trecip_arg 1 5 W (Or.inr (Or.inl (by omega)))
 have g5:=fun W => (show Calls Tryz.prog 34 #[.int .i64 0] W (RetP W 0 1) from rofn7_any 0 W (by omega) (by omega))
 have G1:=Hd9 g1
 have G2:=Hd9 g2
 have G4:=Hd9 g4
 have G5:=Hd9 g5
 clear g1 g2 g4 g5 hT dv0
 go_enter Tryz.func19, Tryz.ntmps19
 go_wp2_with fail
 have L:=Lq.mk0 w
 (try go_wp2_with fail)
 refine (G1.out _).mono ?_
 rintro e w1 ⟨vv, rfl, ii, be⟩
 obtain ⟨A1, c1, B1, d1, rfl, ia, ib⟩:=ii.form
 replace L:=((L.step be).n ib).n ia
 clear be ii ia ib
 (try go_wp2_with fail)
 refine (G2.out _ _ (isI_n (m:=0) (e:=0) (n:=0) (f:=0) (s:=.slice A1 (zl 0) c1) (t:=.slice B1 (zl 0) d1) (L.getN (by simp)) (L.getN (by simp))) L.below).mono ?_
 intro e9 w2 hr9
 obtain ⟨a, b, ⟨ea, eb, za, zb⟩, vv, rfl, ii, be⟩:=hr9
 obtain ⟨A2, c2, B2, d2, rfl, ia, ib⟩:=ii.form
 replace L:=((L.step be).n ib).n ia
 clear be ii ia ib
 obtain ⟨x1, x2, x3, x5⟩:=gr16 (k:=4) za (by omega) (by omega)
 obtain ⟨y1, y2, y3, y5⟩:=gr16 (k:=4) zb (by omega) (by omega)
 rw [hd0] at ea eb
 have zU : AtU 0 0:=Or.inr (Or.inl ⟨by decide +kernel, by decide +kernel⟩)
 have zL : AtL 0 0:=Or.inr (Or.inl ⟨rfl, Rat.le_refl⟩)
 have q1:=at_le ea.1 zU Rat.le_refl
 have q2:=at_le zL eb.2 Rat.le_refl
 have g6 : ∀ v u W, IsI W v (mkM a (-((4 : Nat) : Int))) (mkE a (-((4 : Nat) : Int))) (mkM b (-((4 : Nat) : Int))) (mkE b (-((4 : Nat) : Int))) → IsP W u 0 1 → Calls Tryz.prog 76 #[v, u] W (RetB W true):=fun v u W h k9 => by
  have s:=r10has_any _ _ _ _ 0 1 v u W h k9 (by omega) (by omega) (by omega) (by omega) (Nat.le_trans z0 (by omega)) (Nat.le_trans (len_le1 (by decide)) (by omega))
  rwa [(hasB_iff _ _ _ _ _ _ (by omega)).2 ⟨by rw [x5]; exact q1, by rw [y5]; exact q2⟩] at s
 obtain ⟨M, hM⟩:=nm9 (mkM a (-((4 : Nat) : Int)))
 obtain ⟨E, hE⟩:=nm9 (mkE a (-((4 : Nat) : Int)))
 obtain ⟨N, hN⟩:=nm9 (mkM b (-((4 : Nat) : Int)))
 obtain ⟨G, hG⟩:=nm9 (mkE b (-((4 : Nat) : Int)))
 rw [hM, hE, hN, hG] at g6
 rw [hM, hN] at L ⊢
 rw [hE, hG]
 have G6:=Hd9 g6
 clear g6 x1 x2 x3 x5 y1 y2 y3 y5 q1 q2 zU zL ea eb za zb hM hE hN hG G1 G2
 replace L:=L.varI w2.heap.size rfl (ng M) A2 (zl M) c2 E (ng N) B2 (zl N) d2 G
 obtain ⟨cel00,cel01,cel02,cel03,cel04,cel05⟩:=L.b0.a6
 go_wp2_with fail
 clear cel00 cel01 cel02 cel03 cel04 cel05
 obtain ⟨b1, hb1⟩:=nm9 (w2.heap.size)
 rw [hb1] at L ⊢
 clear hb1
 refine (G4.out _).mono ?_
 rintro e w3 ⟨vv, rfl, ii, be⟩
 obtain ⟨A4, c4, B4, d4, rfl, ia, ib⟩:=ii.form
 replace L:=((L.step be).n ib).n ia
 clear be ii ia ib
 have hl2:=L.b0.lt
 replace L:=L.varI w3.heap.size rfl (ng 0) A4 (zl 0) c4 0 (ng 0) B4 (zl 0) d4 0
 obtain ⟨cel00,cel01,cel02,cel03,cel04,cel05⟩:=L.b0.a6
 go_wp2_with fail
 clear cel00 cel01 cel02 cel03 cel04 cel05
 obtain ⟨b2, hb2⟩:=nm9 (w3.heap.size)
 rw [hb2] at L hl2 ⊢
 clear hb2
 replace L:=L.drew
 obtain ⟨cel10,cel11,cel12,cel13,cel14,cel15⟩:=L.tl.b0.a6
 go_region_held3 (fun w' => w'.cell? ⟨b1, 0, none⟩ = some (.bool (ng M)) ∧ w'.cell? ⟨b1, 1, none⟩ = some (.slice A2 (zl M) c2) ∧ w'.cell? ⟨b1, 2, none⟩ = some (.int .i64 E) ∧ w'.cell? ⟨b1, 3, none⟩ = some (.bool (ng N)) ∧ w'.cell? ⟨b1, 4, none⟩ = some (.slice B2 (zl N) d2) ∧ w'.cell? ⟨b1, 5, none⟩ = some (.int .i64 G)) (first | (with_reducible exact ⟨L.tl.b0.c60, L.tl.b0.c61, L.tl.b0.c62, L.tl.b0.c63, L.tl.b0.c64, L.tl.b0.c65⟩) | exact ⟨L.tl.b0.c60, L.tl.b0.c61, L.tl.b0.c62, L.tl.b0.c63, L.tl.b0.c64, L.tl.b0.c65⟩) (first | (go_at_call 34; (with_reducible refine (G5.out _ ).mono ?_); rintro e wh ⟨vh, rfl, iq, be⟩; replace L:=(L.step be).q iq; clear be iq) | (go_at_call 76; (with_reducible refine (G6.out _ _ _ ?_ ?_ ).mono ?_); (· (refine isI_n (L.getN ?_) (L.getN ?_); all_goals (repeat (first | (with_reducible exact mS) | apply mT)))); (· (refine L.getQ ?_; (repeat (first | (with_reducible exact mS) | apply mT)))); rintro e wh ⟨rfl, be⟩; replace L:=L.step be; clear be))
 (try go_wp2_with fail)
 (try go_ret)
 exact ⟨rfl, L.below⟩
def pt1 (c : Int) (p : Nat → Int × Int) (v : Nat) : Option Int:=match smP p 600 0 (2 ^ v) 0 with
 | none => none
 | some a => some (a * c)
def add2 : Option Int → Option Int → Option Int
 | some a, some b => some (a + b)
 | _, _ => none
def piT (v : Nat) : Option Int:=add2 (pt1 16 (tnP 5 1) v) (pt1 (-4) (tnP 239 1) v)
def cPi : Int:=10283659886096346733263384151503756861634764969113587550194014914087843208563500712840304045958917565049748851786214229816233622223046670298426214405232
theorem plainP (a : Int) (F : Nat) (n : Int) : Plain #[.int .i64 a, .func (.func F) #[] #[], .int .i64 n]:=fun j x => by
 match j with
 | 0 => simp
 | 1 => simp
 | 2 => simp
 | j + 3 => simp
theorem Lq.varP {w0 w : World} {ns : List (Value × Nat)} {zs : List (Value × Int)} {qs : List (Value × Int × Nat)} {bs : List (Nat × TypeId × Array Value)} (h : Lq w0 w ns zs qs bs) (g : Nat) (hg : g = w.heap.size) (a : Int) (F : Nat) (n : Int) : Lq w0 (w.alloc (.cells #[.int .i64 a, .func (.func F) #[] #[], .int .i64 n] 100)) ns zs qs ((g, 100, #[.int .i64 a, .func (.func F) #[] #[], .int .i64 n]) :: bs):=h.var g hg _ _ (plainP _ _ _)
theorem Lq.subs {w0 w : World} {ns : List (Value × Nat)} {zs : List (Value × Int)} {qs : List (Value × Int × Nat)} {bs : List (Nat × TypeId × Array Value)} (h : Lq w0 w ns zs qs bs) {ns' : List (Value × Nat)} {bs' : List (Nat × TypeId × Array Value)} (h1 : ∀ p ∈ ns', p ∈ ns) (h2 : ∀ b ∈ bs', b ∈ bs) : Lq w0 w ns' [] [] bs':=
 ⟨h.below, fun x hx => h.ns x (h1 x hx), fun _ x => (by cases x), fun _ x => (by cases x), fun x hx => h.bs x (h2 x hx)⟩

theorem csum_any (F : Nat) (hen : ∀ args w, (callFunc F args).run Tryz.prog w = .ok (.enter F args) w) (p : Nat → Int × Int) (n fac S : Int) (v : Nat) (w : World) (hg : GdP p) (hS : smP p 600 0 (2 ^ v) 0 = some S) (hfac : AbP fac 10) (hv : v ≤ 4200) (hT : Tab w) (hf : ∀ (j : Nat) W, j ≤ 1000 → Calls Tryz.prog F #[.int .i64 n, .int .i64 (j : Int)] W (RetQ W (Rat.divInt (p j).1 (p j).2))) :
  Calls Tryz.prog 150 #[.agg #[.int .i64 fac, .func (.func F) #[] #[], .int .i64 n], .int .i64 (v : Int)] w (RetD8 w (mkM (S * fac) 0) (mkE (S * fac) 0)):=by
 have hfb : -1024 ≤ fac ∧ fac ≤ 1024:=by
  have e10 : (2 : Nat) ^ 10 = 1024:=by decide
  unfold AbP at hfac
  rw [e10] at hfac
  omega
 have hSb:=smP_abs hg 600 0 _ _ _ (sp_first hS)
 have HR0:=sp_first hS
 have HT:=Hd9 (fun W (hW : Below w.heap.size w W) => hT.mono hW)
 have g1:=fun W (hW : Below w.heap.size w W) => dof_any 1 W (by omega) (by omega) (hT.mono hW)
 obtain ⟨u1, u2, u3⟩:=nf_up (k:=v) (by omega)
 obtain ⟨_, y2, y3, y4, _, _⟩:=nf (t:=1) (v:=0) (by unfold AbP; decide) (by omega)
 have g2:=fun x W h (hW : Below w.heap.size w W) => dshift_any (mkM 1 0) (mkE 1 0) (v : Int) x W h (by omega) (by omega) (by omega) (hT.mono hW)
 rw [u1, u2, u3] at g2
 have g3:=fun W (hW : Below w.heap.size w W) => dof_any fac W (by omega) (by omega) (hT.mono hW)
 obtain ⟨f1, f2, f3, f4, _, _⟩:=nf hfac (by omega)
 obtain ⟨s1, s2, s3, s4, _, _⟩:=nf hSb (by omega)
 obtain ⟨m1, m2, m3⟩:=nf_mul hSb hfac (by omega)
 have g4:=fun x y W h k (hW : Below w.heap.size w W) => dmul_any (mkM S 0) (mkE S 0) (mkM fac 0) (mkE fac 0) x y W h k (by omega) (by omega) (by omega) (by omega) (hT.mono hW)
 rw [m1, m2, m3] at g4
 clear hfb hfac u1 u2 u3 y2 y3 y4 f1 f2 f3 f4 s1 s2 s3 s4 m1 m2 m3 hS hSb
 generalize mkM (S * fac) 0 = Mr at *
 generalize mkE (S * fac) 0 = Er at *
 generalize mkM fac 0 = Mf at *
 generalize mkE fac 0 = Ef at *
 generalize mkM 1 0 = M1 at *
 generalize mkE 1 0 = E1 at *
 generalize hP : (2 : Int) ^ v = P at *
 obtain ⟨M, hM⟩:=nm9 (mkM P 0)
 obtain ⟨E, hE⟩:=nm9 (mkE P 0)
 rw [hM, hE] at g2
 have HR:=Hd9 (And.intro HR0 (And.intro (And.intro hM hE) nf00))
 have G1:=Hd9 g1
 have G2:=Hd9 g2
 have G3:=Hd9 g3
 have G4:=Hd9 g4
 have HF:=Hd9 hf
 have HG:=Hd9 hg
 have HV:=Hd9 hv
 clear g1 g2 g3 g4 hf hg hv HR0 hM hE hP hT
 go_enter Tryz.func150, Tryz.ntmps150
 have L:=((((Lq.mk0 w).varP (w.heap.size) (by simp) fac F n).varD (w.heap.size + 1) (by simp) false none 0 0 0).varD (w.heap.size + 2) (by simp) false none 0 0 0)
 obtain ⟨c00,c01,c02⟩:=L.b0.a3
 obtain ⟨f00,f01,f02⟩:=L.b0.f3
 (try go_wp2_with fail)
 refine (G1.out _ L.below).mono ?_
 rintro e w1 ⟨v1, rfl, id, be⟩
 clear c00 f00 c01 f01 c02 f02
 replace L:=L.step be
 clear be
 (try go_wp2_with fail)
 refine (G2.out _ _ id L.below).mono ?_
 rintro e w2 ⟨v2, rfl, iz, be⟩
 obtain ⟨A1, c1, rfl, _, in9⟩:=iz.form
 replace L:=(L.step be).n in9
 clear be iz in9 id
 have hl9:=L.b0.lt
 replace L:=L.varD w2.heap.size rfl (ng M) A1 (zl M) c1 E
 obtain ⟨c00,c01,c02⟩:=L.b0.a3
 go_wp2_with fail
 clear c00 c01 c02
 obtain ⟨gt, hgt⟩:=nm9 (w2.heap.size)
 rw [hgt] at L hl9 ⊢
 clear hgt
 clear G1 G2
 go_loopw [8] (fun i wr => ∃ (f k : Nat) (t s M E N K : Int) (A1 A2 : Option Addr) (c1 c2 : Nat), i = .int .i64 (k : Int) ∧ Lq w wr [(.slice A1 (zl M) c1, M.natAbs), (.slice A2 (zl N) c2, N.natAbs)] [] [] [(gt, 26, #[.bool (ng M), .slice A1 (zl M) c1, .int .i64 E]), (w.heap.size + 2, 26, #[.bool (ng N), .slice A2 (zl N) c2, .int .i64 K]), (w.heap.size, 100, #[.int .i64 fac, .func (.func F) #[] #[], .int .i64 n]), (w.heap.size + 1, 26, #[.bool false, .slice none 0 0, .int .i64 0])] ∧ Hid (SpI p v f k t s S ∧ (mkM t 0 = M ∧ mkE t 0 = E) ∧ mkM s 0 = N ∧ mkE s 0 = K)) (fun i _ => 700 - (intOf i).toNat)
 case atStart =>
  have zz : zl 0 = 0:=len_zero
  have LN:=L.n (v:=.slice none 0 0) (x:=0) (IsN.zero _)
  refine ⟨600, 0, P, 0, M, E, 0, 0, A1, none, c1, 0, by go_num, ?_, HR⟩
  rw [zz]
  exact LN.subs (by simp) (by simp [ng])
 case round =>
  clear L HR
  obtain ⟨f, k, t, s, M, E, N, K, A1, A2, c1, c2, rfl, L, HR⟩:=hrel
  obtain ⟨hI, ⟨hM, hE⟩, hN, hK⟩:=HR.out
  have hv:=HV.out
  obtain ⟨ht, hs, hfk, _⟩:=id hI
  obtain ⟨_, z2, z3, z4, _, _⟩:=nf ht (by omega)
  obtain ⟨q1, q2⟩:=nf_rat ht (by omega)
  obtain ⟨g, rfl, hk, ht2, n1, n2⟩:=hI.step HG.out
  obtain ⟨r1, r2, r3, r4, _, _⟩:=nf ht2 (by omega)
  have r5:=nf_sign ht2 (by omega)
  obtain ⟨p1, p2, p3⟩:=HG.out k (by omega)
  have zt:=ht.zl
  have hb9:=L.tl.b0.lt
  have hc9:=L.b0.lt
  have o1:=fun x W h => drat_any (mkM t 0) (mkE t 0) x W h (by omega) (by omega)
  rw [q1, q2] at o1
  have o2:=fun W => HF.out k W (by omega)
  unfold RetQ at o2
  have cs:=cut_st p k t p2
  obtain ⟨d, hd⟩ : ∃ d : Nat, (p k).2 = (d : Int):=⟨(p k).2.toNat, by omega⟩
  have ds:=divInt_small (p k).1 d 2 (show zl (p k).1 ≤ 2 from len_le2 (by omega)) (len_le2 (by omega)) (by omega)
  rw [← hd] at ds
  have dp:=den_pos' (Rat.divInt (p k).1 (p k).2)
  generalize (Rat.divInt (p k).1 (p k).2).num = a at *
  generalize (Rat.divInt (p k).1 (p k).2).den = b at *
  have o3:=fun x y W h j => pmul_any t 1 a b x y W h j (by omega) (show len 1 ≤ 1000000 from Nat.le_trans (len_le1 (by omega)) (by omega)) (by omega) (by omega) (by omega) dp
  unfold RetQ at o3
  have sz:=divInt_small (t * a) (1 * b) 600 (by have:=zl_mul t a; omega) (by rw [Nat.one_mul]; omega) (by omega)
  rw [Int.natCast_mul] at sz
  have xp:=den_pos' (Rat.divInt (t * a) (((1 : Nat) : Int) * (b : Int)))
  have xe:=rat_self (Rat.divInt (t * a) (((1 : Nat) : Int) * (b : Int)))
  generalize Rat.divInt (t * a) (((1 : Nat) : Int) * (b : Int)) = X at *
  have o4:=fun x W h (hW : Below w.heap.size w W) => gfloorR_any X.num X.den 0 x W h (by omega) (by omega) xp (by omega) (by omega) (HT.out W hW)
  obtain ⟨e1, e2, e3⟩:=g_yes (p:=0) (by decide) (cutQ (Rat.divInt X.num (X.den : Int)) 0)
  rw [e1, e2, e3, xe, cs, Int.neg_zero, r1] at o4
  have o5:=fun x W h => dsign_any (mkM (stP p k t) 0) (mkE (stP p k t) 0) x W h (by omega)
  have hsu:=ht2.up (show v ≤ v + k by omega)
  obtain ⟨a1, a2, a3⟩:=nf_add hs hsu (by omega)
  obtain ⟨_, b2, b3, b4, _, _⟩:=nf hs (by omega)
  have o6:=fun x y W h j (hW : Below w.heap.size w W) => dadd_any (mkM s 0) (mkE s 0) (mkM (stP p k t) 0) (mkE (stP p k t) 0) x y W h j (by omega) (by omega) (by omega) (by omega) (HT.out W hW)
  rw [a1, a2, a3] at o6
  have w3 : IntKind.i64.wrap ((k : Int) + 1) = (k : Int) + 1:=by rw [IntKind.wrap_i64]; omega
  clear q1 q2 z2 z3 z4 p1 p2 p3 hd ds cs sz xp xe e1 e2 e3 r1 r2 r3 r4 a1 a2 a3 b2 b3 b4 hsu zt dp hI hv ht hs ht2
  obtain ⟨t2, ht2⟩:=nm9 (stP p k t)
  rw [ht2] at n1 n2 r5 o4 o5 o6
  obtain ⟨s2, hs2⟩:=nm9 (s + t2)
  rw [hs2] at n2 o6
  rw [hM, hE] at o1
  rw [hN, hK] at o6
  obtain ⟨M2, hM2⟩:=nm9 (mkM t2 0)
  obtain ⟨E2, hE2⟩:=nm9 (mkE t2 0)
  obtain ⟨N2, hN2⟩:=nm9 (mkM s2 0)
  obtain ⟨K2, hK2⟩:=nm9 (mkE s2 0)
  rw [hM2, hE2] at o4 o5 o6
  rw [hM2] at r5
  rw [hN2, hK2] at o6
  generalize X.num = xa at *
  generalize X.den = xd at *
  obtain ⟨sg9, hsg9⟩:=nm9 (cmpI M2 0)
  rw [hsg9] at o5 r5
  have O1:=Hd9 o1
  have O2:=Hd9 o2
  have O3:=Hd9 o3
  have O4:=Hd9 o4
  have O5:=Hd9 o5
  have O6:=Hd9 o6
  have HQ:=Hd9 (And.intro (And.intro hN hK) (And.intro n1 n2))
  have HM2:=Hd9 (And.intro (And.intro hM2 hE2) (And.intro hN2 hK2))
  clear o1 o2 o3 o4 o5 o6 hsg9 n1 n2 hM hE hN hK hM2 hE2 hN2 hK2 hs2 ht2 HR hfk X
  have nb : w.heap.size + 2 ≠ gt:=by omega
  (try go_wp2_with fail)
  replace L:=L.drew
  obtain ⟨cel00,cel01,cel02⟩:=L.b0.a3
  obtain ⟨f00,f01,f02⟩:=L.b0.f3
  obtain ⟨cel20,cel21,cel22⟩:=L.tl.tl.b0.a3
  go_cut [30] from 18 to 30 (fun s9 wx => ∃ (A3 : Option Addr) (c3 : Nat), Lq w wx [(.slice A3 (zl M2) c3, M2.natAbs), (.slice A2 (zl N) c2, N.natAbs)] [] [] [(gt, 26, #[.bool (ng M2), .slice A3 (zl M2) c3, .int .i64 E2]), (w.heap.size + 2, 26, #[.bool (ng N), .slice A2 (zl N) c2, .int .i64 K]), (w.heap.size, 100, #[.int .i64 fac, .func (.func F) #[] #[], .int .i64 n]), (w.heap.size + 1, 26, #[.bool false, .slice none 0 0, .int .i64 0])])
  case first =>
   go_region_with (first | (go_at_call 200; (with_reducible refine (O1.out _ _ ?_ ).mono ?_); (· (refine isD_n (L.getN ?_); (repeat (first | (with_reducible exact mS) | apply mT)))); rintro e9 wh ⟨vh, rfl, iq, be⟩; obtain ⟨Af, cf, Bf, df, rfl, _, _, _⟩:=iq.form; replace L:=(L.step be).q iq; clear be iq; (try (obtain ⟨xx00,xx01,xx02⟩:=L.b0.a3; obtain ⟨yy00,yy01,yy02⟩:=L.b0.f3)); (try (obtain ⟨xx20,xx21,xx22⟩:=L.tl.tl.b0.a3))) | ((with_reducible refine (O2.out _ ).mono ?_); rintro e9 wh ⟨vh, rfl, iq, be⟩; obtain ⟨Af, cf, Bf, df, rfl, _, _, _⟩:=iq.form; replace L:=(L.step be).q iq; clear be iq; (try (obtain ⟨xx00,xx01,xx02⟩:=L.b0.a3; obtain ⟨yy00,yy01,yy02⟩:=L.b0.f3)); (try (obtain ⟨xx20,xx21,xx22⟩:=L.tl.tl.b0.a3))) | (go_at_call 199; (with_reducible refine (O3.out _ _ _ ?_ ?_ ).mono ?_); (· (refine L.getQ ?_; (repeat (first | (with_reducible exact mS) | apply mT)))); (· (refine L.getQ ?_; (repeat (first | (with_reducible exact mS) | apply mT)))); rintro e9 wh ⟨vh, rfl, iq, be⟩; obtain ⟨Af, cf, Bf, df, rfl, _, _, _⟩:=iq.form; replace L:=(L.step be).q iq; clear be iq; (try (obtain ⟨xx00,xx01,xx02⟩:=L.b0.a3; obtain ⟨yy00,yy01,yy02⟩:=L.b0.f3)); (try (obtain ⟨xx20,xx21,xx22⟩:=L.tl.tl.b0.a3))) | (go_at_call 101; (with_reducible refine (O4.out _ _ ?_ ?_ ).mono ?_); (· (refine L.getQ ?_; (repeat (first | (with_reducible exact mS) | apply mT)))); (· exact L.below); rintro e9 wh ⟨vh, rfl, id, be⟩; obtain ⟨A3, c3, rfl, _, in9⟩:=id.form; replace L:=(L.step be).n in9; clear be id in9; (try (obtain ⟨xx00,xx01,xx02⟩:=L.b0.a3; obtain ⟨yy00,yy01,yy02⟩:=L.b0.f3)); (try (obtain ⟨xx20,xx21,xx22⟩:=L.tl.tl.b0.a3))))
   all_goals
    have P:=L.putD (by omega) (by first | (simp; done) | (simp; omega)) (ng M2) A3 (zl M2) c3 E2
    unfold put3 at P
    go_wp2_with fail
    go_meet
    exact ⟨A3, c3, P.subs (by simp) (by simp)⟩
  case rest =>
   clear L
   obtain ⟨A3, c3, L⟩:=hcut
   have hgt:=L.b0.lt
   obtain ⟨cel00,cel01,cel02⟩:=L.b0.a3
   obtain ⟨f00,f01,f02⟩:=L.b0.f3
   (try go_wp2_with fail)
   refine (O5.out _ _ (isD_n (m:=M2) (e:=E2) (s:=.slice A3 (zl M2) c3) (L.getN (by simp)))).mono ?_
   rintro e w12 ⟨rfl, be⟩
   clear cel00 f00 cel01 f01 cel02 f02
   replace L:=L.step be
   clear be
   by_cases h0 : t2 = 0
   ·have r6 : (sg9 == 0) = true:=r5.trans (decide_eq_true h0)
    obtain rfl:=HQ.out.2.1 h0
    have G4':=G4.out
    rw [HQ.out.1.1, HQ.out.1.2] at G4'
    have G5:=Hd9 G4'
    clear G4' G4 r5 HQ HM2 O1 O2 O3 O4 O5 O6
    replace L:=L.swap
    obtain ⟨cel00,cel01,cel02⟩:=L.b0.a3
    obtain ⟨f00,f01,f02⟩:=L.b0.f3
    obtain ⟨cel20,cel21,cel22⟩:=L.tl.tl.b0.a3
    (try go_wp2_with fail)
    replace L:=L.drew
    clear cel00 f00 cel01 f01 cel02 f02 cel20 cel21 cel22
    obtain ⟨cel00,cel01,cel02⟩:=L.b0.a3
    obtain ⟨f00,f01,f02⟩:=L.b0.f3
    obtain ⟨cel20,cel21,cel22⟩:=L.tl.tl.b0.a3
    go_region_with (first | (go_at_call 92; (with_reducible refine (G3.out _ ?_ ).mono ?_); (· exact L.below); rintro e9 wh ⟨vh, rfl, id, be⟩; obtain ⟨A4, c4, rfl, _, in9⟩:=id.form; replace L:=(L.step be).n in9; clear be id in9; (try (obtain ⟨xx00,xx01,xx02⟩:=L.b0.a3; obtain ⟨yy00,yy01,yy02⟩:=L.b0.f3)); (try (obtain ⟨xx20,xx21,xx22⟩:=L.tl.tl.b0.a3))) | (go_at_call 90; (with_reducible refine (G5.out _ _ _ ?_ ?_ ?_ ).mono ?_); (· (refine isD_n (L.getN ?_); (repeat (first | (with_reducible exact mS) | apply mT)))); (· (refine isD_n (L.getN ?_); (repeat (first | (with_reducible exact mS) | apply mT)))); (· exact L.below); rintro e9 wh ⟨vh, rfl, id, be⟩; obtain ⟨A5, c5, rfl, _, in9⟩:=id.form; replace L:=(L.step be).n in9; clear be id in9; (try (obtain ⟨xx00,xx01,xx02⟩:=L.b0.a3; obtain ⟨yy00,yy01,yy02⟩:=L.b0.f3)); (try (obtain ⟨xx20,xx21,xx22⟩:=L.tl.tl.b0.a3))))
    all_goals
     clear cel00 f00 cel01 f01 cel02 f02 cel20 cel21 cel22
     have P:=L.putD (by omega) (by first | (simp; done) | (simp; omega)) (ng Mr) A5 (zl Mr) c5 Er
     obtain ⟨p0,p1,p2⟩:=P.b0.a3
     obtain ⟨q0,q1,q2⟩:=P.tl.tl.tl.b0.a3
     obtain ⟨q3,q4,q5⟩:=P.tl.tl.tl.b0.f3
     unfold put3 at p0 p1 p2 q0 q1 q2 q3 q4 q5 P
     go_wp2_with fail
     replace L:=P.pull2.swap.pull2.pull2
     clear P p0 p1 p2 q0 q1 q2 q3 q4 q5
     have L4 : Lq w _ _ _ _ _:=L.subs (ns':=[(.slice A5 (zl Mr) c5, Mr.natAbs)]) (bs':=[(w.heap.size + 1, 26, #[.bool false, .slice none 0 0, .int .i64 0])]) (by simp) (by simp)
     clear L
     have L:=L4
     have LP:=L.putD (by omega) (by first | (simp; done) | (simp; omega)) (ng Mr) A5 (zl Mr) c5 (Er)
     obtain ⟨k0,k1,k2⟩:=LP.b0.a3
     unfold put3 at k0 k1 k2
     exact bodyPost_ret (v:=.agg #[.bool (ng Mr), .slice A5 (zl Mr) c5, .int .i64 (Er)]) (by simp [results, Tryz.results150, go_sem, k0, k1, k2]) rfl ⟨_, rfl, isD_n LP.hn, LP.below⟩
   ·have r6 : (sg9 == 0) = false:=r5.trans (decide_eq_false h0)
    have HI:=Hd9 (HQ.out.2.2 h0)
    clear r5 HQ O1 O2 O3 O4 O5 G3 G4
    replace L:=L.swap
    obtain ⟨cel00,cel01,cel02⟩:=L.b0.a3
    obtain ⟨f00,f01,f02⟩:=L.b0.f3
    obtain ⟨cel10,cel11,cel12⟩:=L.tl.b0.a3
    go_wp2_with fail
    refine (O6.out _ _ _ (isD_n (m:=N) (e:=K) (s:=.slice A2 (zl N) c2) (L.getN (by simp))) (isD_n (m:=M2) (e:=E2) (s:=.slice A3 (zl M2) c3) (L.getN (by simp))) L.below).mono ?_
    rintro e w13 ⟨vv, rfl, id, be⟩
    clear cel00 f00 cel01 f01 cel02 f02 cel10 cel11 cel12
    obtain ⟨A6, c6, rfl, _, in9⟩:=id.form
    replace L:=(L.step be).n in9
    clear be id in9
    obtain ⟨cel00,cel01,cel02⟩:=L.b0.a3
    obtain ⟨f00,f01,f02⟩:=L.b0.f3
    replace L:=L.putD (by omega) (by first | (simp; done) | (simp; omega)) (ng N2) A6 (zl N2) c6 K2
    unfold put3 at L
    go_wp2_with fail
    go_roundw
    case rel => exact ⟨g, k + 1, t2, s2, M2, E2, N2, K2, A3, A6, c3, c6, by go_num, L.subs (by simp) (by simp), Hd9 ⟨HI.out, HM2.out⟩⟩
    case measure => simp [intOf]; omega
def RowP (w : World) (v : Value) (l : List (Int × Nat × Int)) : Prop:=∃ g c, v = .slice (some ⟨g, 0, none⟩) l.length c ∧ g < w.heap.size ∧ ∀ (j : Nat) (x : Int × Nat × Int), l[j]? = some x → w.cell? ⟨g, 3 * j, none⟩ = some (.int .i64 x.1) ∧ w.cell? ⟨g, 3 * j + 1, none⟩ = some (.func (.func x.2.1) #[] #[]) ∧ w.cell? ⟨g, 3 * j + 2, none⟩ = some (.int .i64 x.2.2)
def ttl : List Int → Int → Int
 | [], s => s
 | c :: l, s => ttl l (s + c)
def SmI (cs : List Int) (u t : Nat) (s T : Int) : Prop:=AbP s (u + t) ∧ ttl (cs.drop t) s = T
theorem SmI.step {cs : List Int} {u t : Nat} {s T c : Int} (h : SmI cs u t s T) (hc : cs[t]? = some c) (hb : AbP c u) : SmI cs u (t + 1) (s + c) T:=by
 refine ⟨h.1.add (hb.up (by omega)), ?_⟩
 have h2:=h.2
 obtain ⟨hl, e⟩:=List.getElem?_eq_some_iff.1 hc
 rw [List.drop_eq_getElem_cons hl, e, ttl] at h2
 exact h2
theorem SmI.last {cs : List Int} {u : Nat} {s T : Int} (h : SmI cs u cs.length s T) : s = T:=by
 have h2:=h.2
 rw [List.drop_length, ttl] at h2
 exact h2
theorem lo_out (T : Int) (k : Nat) {m e : Int} (h : dq m e = dq (T - 262144) (-((k + 32 : Nat) : Int))) : cutQ (dq m e) (k : Int) = loC T:=by
 rw [h, cutD_down 32 (by omega)]
 rfl
theorem hi_out (T : Int) (k : Nat) {m e : Int} (h : dq m e = dq (T + 262144) (-((k + 32 : Nat) : Int))) : -(cutQ (-(dq m e)) (k : Int)) = hiC T:=by
 rw [h, ← dq_neg, cutD_down 32 (by omega)]
 rfl
theorem loC_abs {T : Int} {u : Nat} (h : AbP T u) (hu : 18 ≤ u) : AbP (loC T) (u + 1) ∧ AbP (hiC T) (u + 1):=by
 have e0 : (262144 : Int) = ((2 ^ 18 : Nat) : Int):=by decide
 have h1 : AbP 262144 u:=AbP.up (j:=18) (by unfold AbP; decide) hu
 have a1:=h.add h1.neg
 have a2:=h.add h1
 rw [← Int.sub_eq_add_neg] at a1
 unfold AbP at *
 unfold loC hiC cdv
 have x1 : ((T - 262144) / 4294967296).natAbs ≤ (T - 262144).natAbs:=Int.natAbs_ediv_le_natAbs _ _
 have x2 : (-(T + 262144) / 4294967296).natAbs ≤ (-(T + 262144)).natAbs:=Int.natAbs_ediv_le_natAbs _ _
 rw [Int.natAbs_neg] at x2 ⊢
 exact ⟨Nat.le_trans x1 a1, Nat.le_trans x2 a2⟩

theorem cencl_yes (k : Nat) (l : List (Int × Nat × Int)) (cs : List Int) (T : Int) (vl : Value) (w : World) (hk : k ≤ 4150) (hl : RowP w vl l) (hlen : cs.length = l.length) (hn : l.length ≤ 100) (hT : Tab w) (hb : ∀ c ∈ cs, AbP c 4850) (hsum : ttl cs 0 = T) (hf : ∀ (j : Nat) x c W, l[j]? = some x → cs[j]? = some c → Below w.heap.size w W → Calls Tryz.prog 150 #[.agg #[.int .i64 x.1, .func (.func x.2.1) #[] #[], .int .i64 x.2.2], .int .i64 ((k + 32 : Nat) : Int)] W (RetD8 W (mkM c 0) (mkE c 0))) :
    Calls Tryz.prog 87 #[.int .i64 (k : Int), vl] w (RetIE w (mkM (loC T) (-(k : Int))) (mkE (loC T) (-(k : Int))) (mkM (hiC T) (-(k : Int))) (mkE (hiC T) (-(k : Int))) 0):=by
  obtain ⟨g, c, rfl, hg, hrow⟩:=hl
  obtain ⟨q, hq⟩:=nm9 (k + 32)
  obtain ⟨n, hn2⟩:=nm9 (l.length)
  have hTb : AbP T 4950:=by
    have hx : ∀ (r : List Int) (s : Int) (u : Nat), (∀ c ∈ r, AbP c 4850) → AbP s (4850 + u) → AbP (ttl r s) (4850 + (u + r.length)):=fun r => by
      induction r with
      | nil => intro s u _ h; exact h
      | cons c r ih =>
        intro s u h1 h2
        rw [ttl]
        have:=ih (s + c) (u + 1) (fun x hx => h1 x (List.mem_cons_of_mem _ hx)) (h2.add ((h1 c mS).up (by omega)))
        rw [List.length_cons, show u + (r.length + 1) = u + 1 + r.length by omega]
        exact this
    have:=hx cs 0 0 hb (AbP.zero _)
    rw [hsum] at this
    exact this.up (by omega)
  obtain ⟨lb1, lb2⟩:=loC_abs hTb (by omega)
  have mb : AbP 262144 4950:=AbP.up (j:=18) (by unfold AbP; decide) (by omega)
  have HP0:=fun W => cperm_any (k : Int) W
  have hkb : okW (k : Int) = true:=by
    unfold okW
    rw [decide_eq_true (show (0 : Int) ≤ (k : Int) by omega), decide_eq_true (show (k : Int) ≤ 4224 by omega)]
    rfl
  rw [hkb] at HP0
  have hTT:=fun W (hW : Below w.heap.size w W) => hT.mono hW
  have g1:=fun W (hW : Below w.heap.size w W) => dof_any 1 W (by omega) (by omega) (hTT W hW)
  obtain ⟨u1, u2, u3⟩:=nf_up (k:=18) (by omega)
  obtain ⟨_, y2, y3, y4, _, _⟩:=nf (t:=1) (v:=0) (by unfold AbP; decide) (by omega)
  have g2:=fun x W h (hW : Below w.heap.size w W) => dshift_any (mkM 1 0) (mkE 1 0) 18 x W h (by omega) (by omega) (by omega) (hTT W hW)
  rw [show ((18 : Nat) : Int) = 18 from rfl] at u1 u2 u3
  rw [show (2 : Int) ^ 18 = 262144 from by decide] at u2 u3
  rw [u1, u2, u3] at g2
  obtain ⟨_, t2, t3, t4, _, _⟩:=nf hTb (by omega)
  obtain ⟨_, v2, v3, v4, _, _⟩:=nf mb (by omega)
  obtain ⟨a1, a2, a3⟩:=nf_sub hTb mb (by omega)
  obtain ⟨b1, b2, b3⟩:=nf_add hTb mb (by omega)
  have g3:=fun x y W h j (hW : Below w.heap.size w W) => dsub_any (mkM T 0) (mkE T 0) (mkM 262144 0) (mkE 262144 0) x y W h j (by omega) (by omega) (by omega) (by omega) (hTT W hW)
  rw [a1, a2, a3] at g3
  have g4:=fun x y W h j (hW : Below w.heap.size w W) => dadd_any (mkM T 0) (mkE T 0) (mkM 262144 0) (mkE 262144 0) x y W h j (by omega) (by omega) (by omega) (by omega) (hTT W hW)
  rw [b1, b2, b3] at g4
  have lob : AbP (T - 262144) 4951:=by rw [Int.sub_eq_add_neg]; exact hTb.add mb.neg
  have hib : AbP (T + 262144) 4951:=hTb.add mb
  obtain ⟨d1, d2, d3, d4, d5, d6⟩:=nf_down (k:=q) lob (by omega) (by omega)
  obtain ⟨e1, e2, e3, e4, e5, e6⟩:=nf_down (k:=q) hib (by omega) (by omega)
  obtain ⟨_, i2, i3, i4, _, _⟩:=nf lob (by omega)
  obtain ⟨_, j2, j3, j4, _, _⟩:=nf hib (by omega)
  have g5:=fun x W h (hW : Below w.heap.size w W) => dshift_any (mkM (T - 262144) 0) (mkE (T - 262144) 0) (-(q : Int)) x W h (by omega) (by omega) (by omega) (hTT W hW)
  have g6:=fun x W h (hW : Below w.heap.size w W) => dshift_any (mkM (T + 262144) 0) (mkE (T + 262144) 0) (-(q : Int)) x W h (by omega) (by omega) (by omega) (hTT W hW)
  rw [d1] at g5
  rw [e1] at g6
  rw [← hq] at d3 e3
  have lo1:=lo_out T k d3
  have hi1:=hi_out T k e3
  rw [hq] at lo1 hi1
  have z1:=(lb1).zl
  have z2:=(lb2).zl
  have hpk : permB (k : Int) = true:=by
    unfold permB
    rw [decide_eq_true (show (-2048 : Int) ≤ (k : Int) by omega), decide_eq_true (show (k : Int) ≤ 8192 by omega)]
    rfl
  have g7:=fun x W h (hW : Below w.heap.size w W) => i10out_yes (mkM (mkM (T - 262144) 0) (mkE (T - 262144) 0 + -(q : Int))) (mkE (mkM (T - 262144) 0) (mkE (T - 262144) 0 + -(q : Int))) (mkM (mkM (T + 262144) 0) (mkE (T + 262144) 0 + -(q : Int))) (mkE (mkM (T + 262144) 0) (mkE (T + 262144) 0 + -(q : Int))) (k : Int) x W h (by omega) (by omega) ⟨d5, d6⟩ ⟨e5, e6⟩ (by omega) (by omega) hpk (by rw [lo1]; exact mk_fits9 (by omega) (by omega) (by omega)) (by rw [hi1]; exact mk_fits9 (by omega) (by omega) (by omega)) (hTT W hW)
  rw [lo1, hi1] at g7
  clear lo1 hi1 d1 d2 d3 d4 d5 d6 e1 e2 e3 e4 e5 e6 u1 u2 u3 y2 y3 y4 t2 t3 t4 v2 v3 v4 a1 a2 a3 b1 b2 b3 i2 i3 i4 j2 j3 j4 lob hib lb1 lb2 z1 z2 hkb
  generalize mkM (loC T) (-(k : Int)) = Ma at *
  generalize mkE (loC T) (-(k : Int)) = Ea at *
  generalize mkM (hiC T) (-(k : Int)) = Na at *
  generalize mkE (hiC T) (-(k : Int)) = Fa at *
  generalize mkM (mkM (T - 262144) 0) (mkE (T - 262144) 0 + -(q : Int)) = Mb at *
  generalize mkE (mkM (T - 262144) 0) (mkE (T - 262144) 0 + -(q : Int)) = Eb at *
  generalize mkM (mkM (T + 262144) 0) (mkE (T + 262144) 0 + -(q : Int)) = Nb at *
  generalize mkE (mkM (T + 262144) 0) (mkE (T + 262144) 0 + -(q : Int)) = Fb at *
  generalize mkM (T - 262144) 0 = Mc at *
  generalize mkE (T - 262144) 0 = Ec at *
  generalize mkM (T + 262144) 0 = Nc at *
  generalize mkE (T + 262144) 0 = Fc at *
  generalize mkM 262144 0 = Mm at *
  generalize mkE 262144 0 = Em at *
  generalize mkM 1 0 = M1 at *
  generalize mkE 1 0 = E1 at *
  rw [hq] at hf
  rw [hn2] at hlen hn ⊢
  have w1 : IntKind.i64.wrap ((k : Int) + 32) = (q : Int):=by rw [IntKind.wrap_i64]; omega
  have w2 : IntKind.i64.wrap (-(q : Int)) = -(q : Int):=by rw [IntKind.wrap_i64]; omega
  have HRW:=Hd9 hrow
  have HB:=Hd9 hb
  have HN:=Hd9 (And.intro hn2 hlen)
  have HT:=Hd9 hTT
  have HF:=Hd9 hf
  have HP:=Hd9 HP0
  have HS:=Hd9 (show SmI cs 4850 0 0 T from ⟨AbP.zero _, hsum⟩)
  have G1:=Hd9 g1
  have G2:=Hd9 g2
  have G3:=Hd9 g3
  have G4:=Hd9 g4
  have G5:=Hd9 g5
  have G6:=Hd9 g6
  have G7:=Hd9 g7
  clear g1 g2 g3 g4 g5 g6 g7 hf hT hTT hb hsum HP0 hrow hpk hTb mb hq hn2 hlen
  go_enter Tryz.func87, Tryz.ntmps87
  have L:=((Lq.mk0 w).varI (w.heap.size) (by simp) false none 0 0 0 false none 0 0 0)
  (try go_wp2_with fail)
  refine (HP.out _).mono ?_
  rintro e9 w' ⟨rfl, rfl⟩
  replace L:=L.varD (w.heap.size + 1) (by simp) false none 0 0 0
  obtain ⟨c00,c01,c02⟩:=L.b0.a3
  obtain ⟨f00,f01,f02⟩:=L.b0.f3
  (try go_wp2_with fail)
  clear c00 f00 c01 f01 c02 f02
  go_loopw [25] (fun i wr => ∃ (t : Nat) (s N K : Int) (A2 : Option Addr) (c2 : Nat), i = .int .i64 (t : Int) ∧ t ≤ n ∧ Lq w wr [(.slice A2 (zl N) c2, N.natAbs)] [] [] [(w.heap.size + 1, 26, #[.bool (ng N), .slice A2 (zl N) c2, .int .i64 K]), (w.heap.size, 28, #[.bool false, .slice none 0 0, .int .i64 0, .bool false, .slice none 0 0, .int .i64 0])] ∧ Hid (SmI cs 4850 t s T ∧ mkM s 0 = N ∧ mkE s 0 = K)) (fun i _ => n - (intOf i).toNat)
  case atStart =>
    have zz : zl 0 = 0:=len_zero
    have LN:=L.n (v:=.slice none 0 0) (x:=0) (IsN.zero _)
    refine ⟨0, 0, 0, 0, none, 0, by go_num, by omega, ?_, Hd9 ⟨HS.out, nf00⟩⟩
    rw [zz]
    exact LN.subs (by simp) (by simp [ng])
  case round =>
    clear L HS
    obtain ⟨t, s, N, K, A2, c2, rfl, ht, L, HS⟩:=hrel
    rcases Nat.eq_or_lt_of_le ht with rfl | ht3
    · obtain ⟨hI, hN, hK⟩:=HS.out
      rw [show t = cs.length from HN.out.2.symm] at hI
      obtain rfl:=hI.last
      have G3':=G3.out
      have G4':=G4.out
      rw [hN, hK] at G3' G4'
      have G8:=Hd9 G3'
      have G9:=Hd9 G4'
      clear G3' G4' hI hN hK HS G3 G4 HB HF HRW
      have hl1:=L.b0.lt
      obtain ⟨c00,c01,c02⟩:=L.b0.a3
      (try go_wp2_with fail)
      refine (G1.out _ L.below).mono ?_
      rintro e w41 ⟨v1, rfl, id, be⟩
      clear c00 c01 c02
      replace L:=L.step be
      clear be
      (try go_wp2_with fail)
      refine (G2.out _ _ id L.below).mono ?_
      rintro e w42 ⟨v2, rfl, iz, be⟩
      obtain ⟨A3, c3, rfl, _, in9⟩:=iz.form
      replace L:=(L.step be).n in9
      clear be iz in9 id
      have hl3:=L.b0.lt
      replace L:=L.varD w42.heap.size rfl (ng Mm) A3 (zl Mm) c3 Em
      obtain ⟨c00,c01,c02⟩:=L.b0.a3
      obtain ⟨c10,c11,c12⟩:=L.tl.b0.a3
      go_wp2_with fail
      clear c00 c01 c02 c10 c11 c12
      obtain ⟨gm, hgm⟩:=nm9 (w42.heap.size)
      rw [hgm] at L hl3 ⊢
      clear hgm
      refine (G8.out _ _ _ (isD_n (m:=N) (e:=K) (s:=.slice A2 (zl N) c2) (L.getN (by simp))) (isD_n (m:=Mm) (e:=Em) (s:=.slice A3 (zl Mm) c3) (L.getN (by simp))) L.below).mono ?_
      rintro e w43 ⟨v2, rfl, iz, be⟩
      obtain ⟨A4, c4, rfl, _, in9⟩:=iz.form
      replace L:=(L.step be).n in9
      clear be iz in9
      have hl4:=L.b0.lt
      replace L:=L.varD w43.heap.size rfl (ng Mc) A4 (zl Mc) c4 Ec
      obtain ⟨c00,c01,c02⟩:=L.b0.a3
      obtain ⟨c10,c11,c12⟩:=L.tl.b0.a3
      obtain ⟨c20,c21,c22⟩:=L.tl.tl.b0.a3
      go_wp2_with fail
      clear c00 c01 c02 c10 c11 c12 c20 c21 c22
      obtain ⟨gl, hgl⟩:=nm9 (w43.heap.size)
      rw [hgl] at L hl4 ⊢
      clear hgl
      refine (G9.out _ _ _ (isD_n (m:=N) (e:=K) (s:=.slice A2 (zl N) c2) (L.getN (by simp))) (isD_n (m:=Mm) (e:=Em) (s:=.slice A3 (zl Mm) c3) (L.getN (by simp))) L.below).mono ?_
      rintro e w44 ⟨v2, rfl, iz, be⟩
      obtain ⟨A5, c5, rfl, _, in9⟩:=iz.form
      replace L:=(L.step be).n in9
      clear be iz in9
      have hl5:=L.b0.lt
      replace L:=L.varD w44.heap.size rfl (ng Nc) A5 (zl Nc) c5 Fc
      obtain ⟨c00,c01,c02⟩:=L.b0.a3
      obtain ⟨c10,c11,c12⟩:=L.tl.b0.a3
      go_wp2_with fail
      clear c00 c01 c02 c10 c11 c12
      obtain ⟨gh, hgh⟩:=nm9 (w44.heap.size)
      rw [hgh] at L hl5 ⊢
      clear hgh
      refine (G5.out _ _ (isD_n (m:=Mc) (e:=Ec) (s:=.slice A4 (zl Mc) c4) (L.getN (by simp))) L.below).mono ?_
      rintro e w45 ⟨v2, rfl, iz, be⟩
      obtain ⟨A6, c6, rfl, _, in9⟩:=iz.form
      replace L:=(L.step be).n in9
      clear be iz in9
      have L4:=L.subs (ns':=[(.slice A6 (zl Mb) c6, Mb.natAbs), (.slice A5 (zl Nc) c5, Nc.natAbs)]) (bs':=[(gl, 26, #[.bool (ng Mc), .slice A4 (zl Mc) c4, .int .i64 Ec]), (gh, 26, #[.bool (ng Nc), .slice A5 (zl Nc) c5, .int .i64 Fc]), (w.heap.size, 28, #[.bool false, .slice none 0 0, .int .i64 0, .bool false, .slice none 0 0, .int .i64 0])]) (by simp) (by simp)
      clear L
      have L:=L4
      clear L4
      have n1 : gl ≠ gh:=by omega
      have n2 : w.heap.size ≠ gh:=by omega
      have n3 : w.heap.size ≠ gl:=by omega
      obtain ⟨c00,c01,c02⟩:=L.b0.a3
      obtain ⟨f00,f01,f02⟩:=L.b0.f3
      obtain ⟨c10,c11,c12⟩:=L.tl.b0.a3
      have P:=L.putD (by omega) (by simp [n1, n2, n3, Ne.symm n1, Ne.symm n2, Ne.symm n3]) (ng Mb) A6 (zl Mb) c6 Eb
      obtain ⟨p0,p1,p2⟩:=P.tl.b0.a3
      unfold put3 at p0 p1 p2 P
      go_wp2_with fail
      replace L:=P
      clear P p0 p1 p2
      clear c00 f00 c01 f01 c02 f02 c10 c11 c12
      refine (G6.out _ _ (isD_n (m:=Nc) (e:=Fc) (s:=.slice A5 (zl Nc) c5) (L.getN (by simp))) L.below).mono ?_
      rintro e w46 ⟨v2, rfl, iz, be⟩
      obtain ⟨A7, c7, rfl, _, in9⟩:=iz.form
      replace L:=(L.step be).n in9
      clear be iz in9
      replace L:=L.swap
      obtain ⟨c00,c01,c02⟩:=L.b0.a3
      obtain ⟨f00,f01,f02⟩:=L.b0.f3
      obtain ⟨c10,c11,c12⟩:=L.tl.b0.a3
      have P:=L.putD (by omega) (by simp [n1, n2, n3, Ne.symm n1, Ne.symm n2, Ne.symm n3]) (ng Nb) A7 (zl Nb) c7 Fb
      obtain ⟨p0,p1,p2⟩:=P.tl.b0.a3
      obtain ⟨p3,p4,p5⟩:=P.b0.a3
      unfold put3 at p0 p1 p2 p3 p4 p5 P
      go_wp2_with fail
      replace L:=P
      clear P p0 p1 p2 p3 p4 p5
      clear c00 f00 c01 f01 c02 f02 c10 c11 c12
      refine (G7.out _ _ (isI_n (m:=Mb) (e:=Eb) (n:=Nb) (f:=Fb) (s:=.slice A6 (zl Mb) c6) (t:=.slice A7 (zl Nb) c7) (L.getN (by simp)) (L.getN (by simp))) L.below).mono ?_
      rintro e w47 ⟨v2, rfl, ii, be⟩
      obtain ⟨A8, c8, B8, d8, rfl, ia, ib⟩:=ii.form
      replace L:=(((L.step be).n ib).n ia).pull2
      clear be ii ia ib
      obtain ⟨c00,c01,c02,c03,c04,c05⟩:=L.b0.a6
      obtain ⟨f00,f01,f02,f03,f04,f05⟩:=L.b0.f6
      go_wp2_with fail
      have LP:=L.putI (by omega) (by simp [n2, n3, Ne.symm n2, Ne.symm n3]) (ng Ma) A8 (zl Ma) c8 Ea (ng Na) B8 (zl Na) d8 Fa
      obtain ⟨k0,k1,k2,k3,k4,k5⟩:=LP.b0.a6
      unfold put6 at k0 k1 k2 k3 k4 k5
      exact bodyPost_ret (v:=.tuple #[.agg #[.bool (ng Ma), .slice A8 (zl Ma) c8, .int .i64 Ea, .bool (ng Na), .slice B8 (zl Na) d8, .int .i64 Fa], .int .i64 0]) (by simp [results, Tryz.results87, go_sem, k0, k1, k2, k3, k4, k5]) rfl ⟨_, rfl, isI_n (LP.getN (by simp)) (LP.getN (by simp)), LP.below⟩
    · obtain ⟨x, hx⟩ : ∃ x, l[t]? = some x:=⟨_, List.getElem?_eq_getElem (by rw [HN.out.1]; exact ht3)⟩
      obtain ⟨cc, hcc⟩ : ∃ x, cs[t]? = some x:=⟨_, List.getElem?_eq_getElem (by rw [HN.out.2]; exact ht3)⟩
      obtain ⟨e0, e1, e2⟩:=HRW.out t x hx
      replace e0:=(L.below.cell (p:=⟨g, 3 * t, none⟩) hg).trans e0
      replace e1:=(L.below.cell (p:=⟨g, 3 * t + 1, none⟩) hg).trans e1
      replace e2:=(L.below.cell (p:=⟨g, 3 * t + 2, none⟩) hg).trans e2
      rw [Nat.mul_comm 3 t] at e0 e1 e2
      obtain ⟨hI, hN, hK⟩:=HS.out
      have hcb:=HB.out _ (List.mem_of_getElem? hcc)
      have hI2:=hI.step hcc hcb
      have o1:=fun W hW => HF.out t x cc W hx hcc hW
      obtain ⟨a1, a2, a3⟩:=nf_add hI.1 (hcb.up (show 4850 ≤ 4850 + t by omega)) (by omega)
      obtain ⟨_, b2, b3, b4, _, _⟩:=nf hI.1 (by omega)
      obtain ⟨_, d2, d3, d4, _, _⟩:=nf hcb (by omega)
      have o2:=fun x y W h j (hW : Below w.heap.size w W) => dadd_any (mkM s 0) (mkE s 0) (mkM cc 0) (mkE cc 0) x y W h j (by omega) (by omega) (by omega) (by omega) (HT.out W hW)
      rw [a1, a2, a3] at o2
      clear a1 a2 a3 b2 b3 b4 d2 d3 d4 hcb hI hcc hx
      obtain ⟨s2, hs2⟩:=nm9 (s + cc)
      rw [hs2] at o2 hI2
      rw [hN, hK] at o2
      obtain ⟨N2, hN2⟩:=nm9 (mkM s2 0)
      obtain ⟨K2, hK2⟩:=nm9 (mkE s2 0)
      rw [hN2, hK2] at o2
      generalize mkM cc 0 = Mx at *
      generalize mkE cc 0 = Ex at *
      have HR:=Hd9 (And.intro hI2 (And.intro hN2 hK2))
      have O1:=Hd9 o1
      have O2:=Hd9 o2
      obtain ⟨xa, xF, xn⟩:=x
      dsimp only at e0 e1 e2 O1
      have hlt : (t : Int) < (n : Int):=by omega
      have ht0 : (0 : Int) ≤ (t : Int):=by omega
      have w3 : IntKind.i64.wrap ((t : Int) + 1) = (t : Int) + 1:=by rw [IntKind.wrap_i64]; omega
      have hl1:=L.b0.lt
      have hsf:=fun (a : Addr) (W : World) => run_store Tryz.prog W a (.func (.func xF) #[] #[]) .plain rfl
      clear o1 o2 hI2 hN2 hK2 hN hK hs2 HS
      replace L:=L.varP wr.heap.size rfl xa xF xn
      obtain ⟨cel00,cel01,cel02⟩:=L.b0.a3
      obtain ⟨cel10,cel11,cel12⟩:=L.tl.b0.a3
      go_wp2_with fail
      clear cel00 cel01 cel02 cel10 cel11 cel12
      obtain ⟨gx, hgx⟩:=nm9 (wr.heap.size)
      rw [hgx] at L hl1 ⊢
      clear hgx e0 e1 e2
      have n1 : w.heap.size + 1 ≠ gx:=by omega
      obtain ⟨cel00,cel01,cel02⟩:=L.b0.a3
      obtain ⟨cel10,cel11,cel12⟩:=L.tl.b0.a3
      (try go_wp2_with fail)
      replace L:=L.drew.swap
      clear cel00 cel01 cel02 cel10 cel11 cel12
      obtain ⟨cel00,cel01,cel02⟩:=L.b0.a3
      obtain ⟨f00,f01,f02⟩:=L.b0.f3
      obtain ⟨cel10,cel11,cel12⟩:=L.tl.b0.a3
      go_region_with (first | (go_at_call 150; (with_reducible refine (O1.out _ ?_ ).mono ?_); (· exact L.below); rintro e9 wh ⟨vh, rfl, id, be⟩; obtain ⟨A4, c4, rfl, _, in9⟩:=id.form; replace L:=(L.step be).n in9; clear be id in9; (try (obtain ⟨xx00,xx01,xx02⟩:=L.b0.a3; obtain ⟨yy00,yy01,yy02⟩:=L.b0.f3)); (try (obtain ⟨xx10,xx11,xx12⟩:=L.tl.b0.a3))) | (go_at_call 57; (with_reducible refine (O2.out _ _ _ ?_ ?_ ?_ ).mono ?_); (· (refine isD_n (L.getN ?_); (repeat (first | (with_reducible exact mS) | apply mT)))); (· (refine isD_n (L.getN ?_); (repeat (first | (with_reducible exact mS) | apply mT)))); (· exact L.below); rintro e9 wh ⟨vh, rfl, id, be⟩; obtain ⟨A5, c5, rfl, _, in9⟩:=id.form; replace L:=(L.step be).n in9; clear be id in9; (try (obtain ⟨xx00,xx01,xx02⟩:=L.b0.a3; obtain ⟨yy00,yy01,yy02⟩:=L.b0.f3)); (try (obtain ⟨xx10,xx11,xx12⟩:=L.tl.b0.a3))))
      all_goals
        clear cel00 f00 cel01 f01 cel02 f02 cel10 cel11 cel12
        have P:=L.putD (by omega) (by simp [n1, Ne.symm n1]) (ng N2) A5 (zl N2) c5 K2
        unfold put3 at P
        go_wp2_with fail
        replace L:=P
        clear P
        go_roundw
        case rel => exact ⟨t + 1, s2, N2, K2, A5, c5, by go_num, by omega, L.subs (by simp) (by simp), HR⟩
        case measure => simp [intOf]; omega

def inM (c : Int) (k : Nat) : Option Int → Bool
 | none => false
 | some T => decide (loC T * 2 ^ (500 - k) + 1048576 ≤ c) && decide (c + 1048576 ≤ hiC T * 2 ^ (500 - k))
structure Cn (T c : Int) (k : Nat) : Prop where
 al : AbP (loC T) (k + 3)
 ah : AbP (hiC T) (k + 3)
 lo : dq (loC T) (-(k : Int)) ≤ dq (c - 1048576) (-500)
 hi : dq (c + 1048576) (-500) ≤ dq (hiC T) (-(k : Int))
 wd : hiC T ≤ loC T + 2
theorem dq_up9 (C : Int) {k F : Nat} (h : k ≤ F) : dq C (-(k : Int)) = dq (C * 2 ^ (F - k)) (-(F : Int)):=by
 refine dq_eq (F := -(F : Int)) ?_ (by omega) (by omega)
 rw [show (-(k : Int) - -(F : Int)).toNat = F - k by omega, show (-(F : Int) - -(F : Int)).toNat = 0 by omega]
 simp
theorem cn_of {c : Int} {k : Nat} {o : Option Int} (hk : k < 200) (hc : 1048576 ≤ c ∧ c < 2 ^ 502) (h : inM c k o = true) : ∃ T, o = some T ∧ Cn T c k:=by
  match o with
  | none => cases h
  | some T =>
    unfold inM at h
    rw [Bool.and_eq_true] at h
    have h1:=of_decide_eq_true h.1
    have h2:=of_decide_eq_true h.2
    have hw : hiC T ≤ loC T + 2:=by
      unfold hiC loC
      rw [cdv_le (by omega)]
      have:=Int.lt_ediv_add_one_mul_self (T - 262144) (show (0 : Int) < 4294967296 by omega)
      omega
    have hp:=pow2_pos (500 - k)
    have e5 : (2 : Int) ^ 502 = 2 ^ (k + 2) * 2 ^ (500 - k):=by rw [← Int.pow_add]; congr 1; omega
    have b1 : loC T < 2 ^ (k + 2):=by
      refine Int.lt_of_mul_lt_mul_right (a:=2 ^ (500 - k)) ?_ (by omega)
      rw [← e5]
      omega
    have b2 : 0 ≤ hiC T:=by
      refine Int.not_lt.1 fun h9 => ?_
      have:=Int.mul_neg_of_neg_of_pos h9 hp
      omega
    have b3 : -2 ≤ loC T:=by omega
    have e6 : (2 : Int) ^ (k + 3) = 2 ^ (k + 2) * 2:=by rw [← Int.pow_succ]
    have b4 : (4 : Int) ≤ 2 ^ (k + 2):=by
      have:=pow2_pos k
      rw [Int.pow_succ, Int.pow_succ]
      omega
    have eP : (((2 : Nat) ^ (k + 3) : Nat) : Int) = 2 ^ (k + 3):=by simp
    refine ⟨T, rfl, ?_, ?_, ?_, ?_, hw⟩
    · unfold AbP; omega
    · unfold AbP; omega
    · rw [dq_up9 _ (show k ≤ 500 by omega)]
      exact (dq_le_iff _ _ _).2 (by omega)
    · rw [dq_up9 (hiC T) (show k ≤ 500 by omega)]
      exact (dq_le_iff _ _ _).2 h2

end Go.Proofs.YtmgbjldogggpcaaGreatDoor
