/- Joined: CiB, CiH, CiM, CiN, CpD, CiP, CiQ, CpA, CpB, IvPE, CpC, ExC, CiR, CpE, AtM, AtN, AtO, LnA, LnE, AtC, AtD (what the law leans on). -/
import Derived.Test.YtiddbhhhmeopeaaGreatDoorBaseIE7
import Derived.Test.YtiddbhhhmeopeaaGreatDoorBaseJE7
import Derived.Test.YtiddbhhhmeopeaaGreatDoorBaseDE7
import Derived.Test.YtiddbhhhmeopeaaGreatDoorBaseVE7
import Derived.Test.YtiddbhhhmeopeaaGreatDoorBaseSE7
import Derived.Test.YtiddbhhhmeopeaaGreatDoorBaseFE7
import Derived.Test.YtiddbhhhmeopeaaGreatDoorBaseWE7
import Derived.Test.YtiddbhhhmeopeaaGreatDoorBaseGE7
import Derived.Test.YtiddbhhhmeopeaaGreatDoorRefGrBE7
import Derived.Test.YtiddbhhhmeopeaaGreatDoorBaseXE7
import Derived.Test.YtiddbhhhmeopeaaGreatDoorGrPCE7
import Derived.Test.YtiddbhhhmeopeaaGreatDoorBaseZE7
import Derived.Test.YtiddbhhhmeopeaaGreatDoorBaseUE7
import Derived.Test.YtiddbhhhmeopeaaGreatDoorJE71
import Derived.BigQuiet
import Derived.Deep.Cut
import Derived.Deep.CutRange
import Derived.Deep.DrawnRows
import Derived.Deep.QuietTactic
import Derived.Deep.RegionHeld3
namespace Go.Proofs.YtiddbhhhmeopeaaGreatDoor
set_option maxHeartbeats 64000000
open Go.RowKit
set_option linter.unusedVariables false
set_option linter.unusedSimpArgs false
set_option maxRecDepth 100000
attribute [local go_sem ↓] Go.wp_at_zero Go.wp_at_succ

def okY (p least : Int) : Bool:=decide (least ≤ p) && decide (p ≤ 4096)
theorem yperm_any (p least : Int) (w : World) :
  Calls Tryz.prog 104 #[.int .i64 p, .int .i64 least] w (fun e w' => e = .returned (.bool (okY p least)) ∧ w = w'):=by
 unfold okY
 by_cases q1 : least ≤ p
 ·have b1 : decide (least ≤ p) = true:=decide_eq_true q1
  rw [b1, Bool.true_and]
  go_enter Tryz.func104, Tryz.ntmps104
  go_wp2_with fail
  go_ret
  exact ⟨rfl, rfl⟩
 ·have b1 : decide (least ≤ p) = false:=decide_eq_false q1
  rw [b1, Bool.false_and]
  go_enter Tryz.func104, Tryz.ntmps104
  go_wp2_with fail
  go_ret
  exact ⟨rfl, rfl⟩
theorem yprod_any (M E N G F : Int) (p : Nat) (vx vy : Value) (w : World) (hx : IsD w vx M E) (hy : IsD w vy N G) (lm : zl M ≤ 150) (ln : zl N ≤ 150) (he : -4500 ≤ E ∧ E ≤ 4500) (hg : -4500 ≤ G ∧ G ≤ 4500) (hF : cutQ (dq M E * dq N G) (p : Int) = F) (hb : AbP F 10000) (hp : p ≤ 8192) (hT : Tab w) :
  Calls Tryz.prog 260 #[vx, vy, .int .i64 (p : Int)] w (RetD8 w (mkM F (-(p : Int))) (mkE F (-(p : Int)))):=by
 obtain ⟨A, c, rfl, _, hn⟩:=hx.form
 obtain ⟨B, d, rfl, _, hn2⟩:=hy.form
 have L0:=((Lq.mk0 w).n hn2).n hn
 have hz:=zl_mul M N
 have hr : mkR (M * N) (E + G) = 0:=mk_fits9 (by omega) (by omega) (by omega)
 have z1:=zl_mk (M * N) (E + G)
 have z2:=mkE_at hr (k:=300) (by omega)
 have hd:=dq_mk hr
 rw [dq_mul] at hd
 obtain ⟨M4, hM4⟩:=nm9 (mkM (M * N) (E + G))
 obtain ⟨E4, hE4⟩:=nm9 (mkE (M * N) (E + G))
 rw [hM4] at z1 hd
 rw [hE4] at z2 hd
 have g1:=fun x y W h j (hW : Below w.heap.size w W) => dmul_any M E N G x y W h j (by omega) (by omega) (by omega) (by omega) (hT.mono hW)
 rw [hM4, hE4, hr] at g1
 obtain ⟨y1, y2, y3⟩:=g_yes (permN (p:=p) (by omega)) F
 obtain ⟨n1, n2, n3, _, _⟩:=nx hb (by omega) (show -20000 ≤ -(p : Int) ∧ -(p : Int) ≤ 20000 by omega)
 have g2:=fun x W h (hW : Below w.heap.size w W) => gfloor_any M4 E4 (p : Int) x W h (by omega) (by omega) (by omega) (by omega) (hT.mono hW)
 rw [hd, hF, y1, y2, y3, n1] at g2
 clear y1 y2 y3 n1 n2 n3 hz hr z1 z2 hd hM4 hE4 lm ln he hg hb hp hT hF hx hy
 generalize mkM F (-(p : Int)) = Z at *
 generalize mkE F (-(p : Int)) = Q at *
 have G1:=Hd9 g1
 have G2:=Hd9 g2
 clear g1 g2
 go_enter Tryz.func260, Tryz.ntmps260
 have L:=(((L0.varD (w.heap.size) (by simp) (ng M) A (zl M) c E).varD (w.heap.size + 1) (by simp) (ng N) B (zl N) d G).varD (w.heap.size + 2) (by simp) false none 0 0 0)
 obtain ⟨c10,c11,c12⟩:=L.tl.b0.a3
 obtain ⟨c20,c21,c22⟩:=L.tl.tl.b0.a3
 (try go_wp2_with fail)
 refine (G1.out _ _ _ (isD_n (m:=M) (e:=E) (s:=.slice A (zl M) c) (L.getN (by simp))) (isD_n (m:=N) (e:=G) (s:=.slice B (zl N) d) (L.getN (by simp))) L.below).mono ?_
 rintro e w1 ⟨v9, rfl, iz, be⟩
 clear c10 c11 c12 c20 c21 c22
 obtain ⟨A4, c4, rfl, _, in9⟩:=iz.form
 replace L:=(L.step be).n in9
 clear be iz in9
 have hl9:=L.b0.lt
 replace L:=L.varD w1.heap.size rfl (ng M4) A4 (zl M4) c4 E4
 obtain ⟨c00,c01,c02⟩:=L.b0.a3
 go_wp2_with fail
 clear c00 c01 c02
 obtain ⟨g1, hg1⟩:=nm9 (w1.heap.size)
 rw [hg1] at L hl9 ⊢
 clear hg1
 have hl_g1:=hl9
 clear hl9
 refine (G2.out _ _ (isD_n (m:=M4) (e:=E4) (s:=.slice A4 (zl M4) c4) (L.getN (by simp))) L.below).mono ?_
 rintro e w2 ⟨v9, rfl, iz, be⟩
 obtain ⟨A5, c5, rfl, _, in9⟩:=iz.form
 replace L:=(L.step be).n in9
 clear be iz in9
 have hl9:=L.b0.lt
 have L9:=L.subx (ns':=[(.slice A5 (zl Z) c5, Z.natAbs)]) (bs':=[(w.heap.size + 1 + 1, 26, #[.bool false, .slice none 0 0, .int .i64 0])]) (by simp) (by simp)
 clear L
 have L:=L9
 clear L9
 have n9 : w.heap.size + 1 + 1 ≠ w2.heap.size:=by omega
 obtain ⟨c00,c01,c02⟩:=L.b0.a3
 obtain ⟨f00,f01,f02⟩:=L.b0.f3
 have LN:=L.varD w2.heap.size rfl (ng Z) A5 (zl Z) c5 Q
 obtain ⟨v0,v1,v2⟩:=LN.b0.a3
 obtain ⟨v3,v4,v5⟩:=LN.tl.b0.a3
 obtain ⟨v6,v7,v8⟩:=LN.tl.b0.f3
 go_wp2_with fail
 clear c00 f00 c01 f01 c02 f02
 clear v0 v1 v2 v3 v4 v5 v6 v7 v8
 clear L
 have L:=LN.swap
 clear LN
 have LP:=L.putD (by omega) (by first | (simp; done) | (simp; omega)) (ng Z) A5 (zl Z) c5 (Q)
 obtain ⟨k0,k1,k2⟩:=LP.b0.a3
 unfold put3 at k0 k1 k2
 exact bodyPost_ret (v:=.agg #[.bool (ng Z), .slice A5 (zl Z) c5, .int .i64 (Q)]) (by simp [results, Tryz.results260, go_sem, k0, k1, k2]) rfl ⟨_, rfl, isD_n (LP.getN (by simp)), LP.below⟩
theorem np_div9 {Y : Int} {p k : Nat} (h : AbP Y p) (hp : p ≤ 700) (hk : 1 ≤ k) (hk2 : k ≤ 4294967296) :
  workB (p : Int) = true ∧ cmpI (mkM (k : Int) 0) 0 = 1 ∧ ∀ W : World, RetEn W (min4 (dq (mkM Y (-(p : Int))) (mkE Y (-(p : Int))) / dq (mkM (k : Int) 0) (mkE (k : Int) 0)) (dq (mkM Y (-(p : Int))) (mkE Y (-(p : Int))) / dq (mkM (k : Int) 0) (mkE (k : Int) 0)) (dq (mkM Y (-(p : Int))) (mkE Y (-(p : Int))) / dq (mkM (k : Int) 0) (mkE (k : Int) 0)) (dq (mkM Y (-(p : Int))) (mkE Y (-(p : Int))) / dq (mkM (k : Int) 0) (mkE (k : Int) 0)))
   (max4 (dq (mkM Y (-(p : Int))) (mkE Y (-(p : Int))) / dq (mkM (k : Int) 0) (mkE (k : Int) 0)) (dq (mkM Y (-(p : Int))) (mkE Y (-(p : Int))) / dq (mkM (k : Int) 0) (mkE (k : Int) 0)) (dq (mkM Y (-(p : Int))) (mkE Y (-(p : Int))) / dq (mkM (k : Int) 0) (mkE (k : Int) 0)) (dq (mkM Y (-(p : Int))) (mkE Y (-(p : Int))) / dq (mkM (k : Int) 0) (mkE (k : Int) 0))) (p : Int) =
  RetIE W (mkM (Y / (k : Int)) (-(p : Int))) (mkE (Y / (k : Int)) (-(p : Int))) (upM (dq Y (-(p : Int)) / (k : Rat)) (p : Int)) (upE (dq Y (-(p : Int)) / (k : Rat)) (p : Int)) 0:=by
 obtain ⟨a1, a2, a3, a4, a5⟩:=np h (by omega) (show p ≤ 3000 by omega)
 have hkb : AbP (k : Int) 33:=by
  have e : (2 : Nat) ^ 33 = 8589934592:=by decide
  unfold AbP
  rw [e]
  omega
 obtain ⟨b1, b2, b3, b4, b5, b6⟩:=nf hkb (by omega)
 have hwk : workB (p : Int) = true:=by
  unfold workB
  rw [decide_eq_true (show (0 : Int) ≤ (p : Int) by omega), decide_eq_true (show (p : Int) ≤ 4096 by omega)]
  rfl
 have hne : cmpI (mkM (k : Int) 0) 0 = 1:=by
  have : 0 < mkM (k : Int) 0:=by
   refine Int.not_le.1 fun hle => ?_
   have h1:=pow2_pos (mkE (k : Int) 0).toNat
   have h2:=Int.mul_le_mul_of_nonneg_right hle (show (0 : Int) ≤ 2 ^ (mkE (k : Int) 0).toNat by omega)
   rw [b5, Int.zero_mul] at h2
   omega
  exact cmpI_gt this
 refine ⟨hwk, hne, fun W => ?_⟩
 rw [a5, b6, dq_int, Rat.intCast_natCast]
 have hkr : (0 : Rat) < (k : Rat):=by exact_mod_cast hk
 obtain ⟨q, hq⟩:=nm9 (dq Y (-(p : Int)) / (k : Rat))
 have hqk : q * (k : Rat) = dq Y (-(p : Int)):=by rw [← hq]; exact Rat.div_mul_cancel (by grind)
 have cut : ∀ (X : Int) (r : Rat), r * (k : Rat) = dq X (-(p : Int)) → cutQ r (p : Int) = X / (k : Int):=fun X r hr => by
  refine cut_unique ?_ ?_
  ·refine le_of_mul hkr ?_
   rw [hr]
   have:=fdiv_le (x:=X) (n:=(k : Int)) (by omega) (-(p : Int))
   rwa [Rat.intCast_natCast] at this
  ·rw [← dq_succ]
   refine Rat.not_le.1 fun hlt => ?_
   have h1:=Rat.mul_le_mul_of_nonneg_right hlt (Rat.le_of_lt hkr)
   rw [hr, dq_scale, dq_scale X] at h1
   have h2:=Int.lt_ediv_add_one_mul_self X (show (0 : Int) < (k : Int) by omega)
   have h3:=(dq_le_iff ((X / (k : Int) + 1) * (k : Int)) X (-(p : Int))).1 (by
    rw [dq_scale, dq_scale X, Rat.intCast_mul, Rat.intCast_natCast]
    grind)
   omega
 have c1:=cut Y q hqk
 have c2:=cut (-Y) (-q) (by rw [dq_neg, ← hqk]; grind)
 rw [hq]
 have em : min4 q q q q = q:=by rcases min4_or q q q q with h | h | h | h <;> exact h
 have ex : max4 q q q q = q:=by rcases max4_or q q q q with h | h | h | h <;> exact h
 rw [em, ex]
 have w1 : AbP (Y / (k : Int)) p:=Nat.le_trans (Int.natAbs_ediv_le_natAbs _ _) h
 have w2 : AbP (-(-Y / (k : Int))) p:=by
  have : AbP (-Y / (k : Int)) p:=Nat.le_trans (Int.natAbs_ediv_le_natAbs _ _) h.neg
  exact this.neg
 have z1:=w1.zl
 have z2:=w2.zl
 rw [RetEn.ok hwk (z:=0) (by rw [c1]; omega) (by rw [c2]; omega) (by omega) Rat.le_refl W]
 unfold enM enE
 rw [c1]

theorem yquot_any (Y : Int) (p k : Nat) (vx : Value) (w : World) (hx : IsD w vx (mkM Y (-(p : Int))) (mkE Y (-(p : Int)))) (hY : AbP Y p) (hp : p ≤ 700) (hk : 1 ≤ k) (hk2 : k ≤ 4294967296) (hT : Tab w) :
  Calls Tryz.prog 257 #[vx, .int .i64 (k : Int), .int .i64 (p : Int)] w (RetD8 w (mkM (Y / (k : Int)) (-(p : Int))) (mkE (Y / (k : Int)) (-(p : Int)))):=by
 obtain ⟨A, c, rfl, _, hn⟩:=hx.form
 have L0:=(Lq.mk0 w).n hn
 obtain ⟨a1, a2, a3, a4, a5⟩:=np hY (by omega) (show p ≤ 3000 by omega)
 obtain ⟨s1, s2, s3⟩:=np_same a4 (by omega) (by omega)
 have hZ : AbP (Y / (k : Int)) p:=Nat.le_trans (Int.natAbs_ediv_le_natAbs _ _) hY
 obtain ⟨b1, b2, b3, b4, b5⟩:=np hZ (by omega) (show p ≤ 3000 by omega)
 obtain ⟨r1, r2, r3⟩:=np_same b4 (by omega) (by omega)
 have hkb : AbP (k : Int) 33:=by
  have e : (2 : Nat) ^ 33 = 8589934592:=by decide
  unfold AbP
  rw [e]
  omega
 obtain ⟨k1, _, k3, k4, _, _⟩:=nf hkb (by omega)
 have k2 : zl (mkM (k : Int) 0) ≤ 2:=Nat.le_trans (zl_mk _ _) (Nat.le_trans hkb.zl (by omega))
 have kdv : Dv (mkM (k : Int) 0) (mkE (k : Int) 0):=mk_ok k1
 have k5 : mkE (k : Int) 0 ≤ 100:=by rcases mkE_at k1 hkb.zl with e | e <;> omega
 have g1:=fun x W h (hW : Below w.heap.size w W) => dshift_any (mkM Y (-(p : Int))) (mkE Y (-(p : Int))) 0 x W h (by omega) (by omega) (by omega) (hT.mono hW)
 rw [s1, s2, s3] at g1
 have g2:=fun x W h => i10point_any (mkM Y (-(p : Int))) (mkE Y (-(p : Int))) x W h (by omega) (by omega) a4
 have g3:=fun W (hW : Below w.heap.size w W) => dof_any (k : Int) W (by omega) (by omega) (hT.mono hW)
 have g4:=fun x W h => i10point_any (mkM (k : Int) 0) (mkE (k : Int) 0) x W h (by omega) (by omega) kdv
 obtain ⟨q1, q2, q3⟩:=np_div9 hY hp hk hk2
 have g5:=fun x y W h j (hW : Below w.heap.size w W) => adiv_pos (mkM Y (-(p : Int))) (mkE Y (-(p : Int))) (mkM Y (-(p : Int))) (mkE Y (-(p : Int))) (mkM (k : Int) 0) (mkE (k : Int) 0) (mkM (k : Int) 0) (mkE (k : Int) 0) (p : Int) x y W h j (by omega) (by omega) (by omega) (by omega) (by omega) (by omega) (by omega) (by omega) (by rw [dcm_self]; omega) (by rw [dcm_self]; omega) (by omega) (by omega) (hT.mono hW) q1 rfl (by rw [q2]; omega) (by rw [q2]; omega)
 simp only [q3] at g5
 have g6:=fun x W h (hW : Below w.heap.size w W) => dshift_any (mkM (Y / (k : Int)) (-(p : Int))) (mkE (Y / (k : Int)) (-(p : Int))) 0 x W h (by omega) (by omega) (by omega) (hT.mono hW)
 rw [r1, r2, r3] at g6
 have w1 : IntKind.i64.wrap ((p : Int) - 4096) = (p : Int) - 4096:=by rw [IntKind.wrap_i64]; omega
 have w2 : max ((p : Int) - 4096) 0 = 0:=by omega
 have w3 : IntKind.i64.wrap (p : Int) = (p : Int):=by rw [IntKind.wrap_i64]; omega
 clear q1 q2 q3 a1 a2 a3 a4 a5 s1 s2 s3 b1 b2 b3 b4 b5 r1 r2 r3 k1 k2 k3 k4 k5 kdv hkb hZ hY hT hx
 generalize mkM (Y / (k : Int)) (-(p : Int)) = Z at *
 generalize mkE (Y / (k : Int)) (-(p : Int)) = Q at *
 generalize upM (dq Y (-(p : Int)) / (k : Rat)) (p : Int) = U at *
 generalize upE (dq Y (-(p : Int)) / (k : Rat)) (p : Int) = V at *
 generalize mkM Y (-(p : Int)) = M at *
 generalize mkE Y (-(p : Int)) = E at *
 generalize mkM (k : Int) 0 = K at *
 generalize mkE (k : Int) 0 = F at *
 have G1:=Hd9 g1
 have G2:=Hd9 g2
 have G3:=Hd9 g3
 have G4:=Hd9 g4
 have G5:=Hd9 g5
 have G6:=Hd9 g6
 clear g1 g2 g3 g4 g5 g6 hk hk2
 go_enter Tryz.func257, Tryz.ntmps257
 have L:=((L0.varD (w.heap.size) (by simp) (ng M) A (zl M) c E).varD (w.heap.size + 1) (by simp) false none 0 0 0)
 obtain ⟨c10,c11,c12⟩:=L.tl.b0.a3
 (try go_wp2_with fail)
 refine (G1.out _ _ (isD_n (m:=M) (e:=E) (s:=.slice A (zl M) c) (L.getN (by simp))) L.below).mono ?_
 rintro e w1 ⟨v9, rfl, iz, be⟩
 clear c10 c11 c12
 obtain ⟨A1, c1, rfl, _, in9⟩:=iz.form
 replace L:=(L.step be).n in9
 clear be iz in9
 have hl9:=L.b0.lt
 replace L:=L.varD w1.heap.size rfl (ng M) A1 (zl M) c1 E
 obtain ⟨c00,c01,c02⟩:=L.b0.a3
 go_wp2_with fail
 clear c00 c01 c02
 obtain ⟨g1, hg1⟩:=nm9 (w1.heap.size)
 rw [hg1] at L hl9 ⊢
 clear hg1
 have hl_g1:=hl9
 clear hl9
 refine (G2.out _ _ (isD_n (m:=M) (e:=E) (s:=.slice A1 (zl M) c1) (L.getN (by simp)))).mono ?_
 rintro e w2 ⟨v9, rfl, ii, be⟩
 obtain ⟨A2, c2, B2, d2, rfl, ia, ib⟩:=ii.form
 replace L:=((L.step be).n ib).n ia
 clear be ii ia ib
 (try go_wp2_with fail)
 refine (G3.out _ L.below).mono ?_
 rintro e w3 ⟨v9, rfl, iz, be⟩
 obtain ⟨A3, c3, rfl, _, in9⟩:=iz.form
 replace L:=(L.step be).n in9
 clear be iz in9
 (try go_wp2_with fail)
 refine (G4.out _ _ (isD_n (m:=K) (e:=F) (s:=.slice A3 (zl K) c3) (L.getN (by simp)))).mono ?_
 rintro e w4 ⟨v9, rfl, ii, be⟩
 obtain ⟨A4, c4, B4, d4, rfl, ia, ib⟩:=ii.form
 replace L:=((L.step be).n ib).n ia
 clear be ii ia ib
 (try go_wp2_with fail)
 refine (G5.out _ _ _ (isI_n (m:=M) (e:=E) (n:=M) (f:=E) (s:=.slice A2 (zl M) c2) (t:=.slice B2 (zl M) d2) (L.getN (by simp)) (L.getN (by simp))) (isI_n (m:=K) (e:=F) (n:=K) (f:=F) (s:=.slice A4 (zl K) c4) (t:=.slice B4 (zl K) d4) (L.getN (by simp)) (L.getN (by simp))) L.below).mono ?_
 rintro e w5 ⟨v9, rfl, ii, be⟩
 obtain ⟨A5, c5, B5, d5, rfl, ia, ib⟩:=ii.form
 replace L:=((L.step be).n ib).n ia
 clear be ii ia ib
 have hl9:=L.b0.lt
 replace L:=L.varI w5.heap.size rfl (ng Z) A5 (zl Z) c5 Q (ng U) B5 (zl U) d5 V
 obtain ⟨c00,c01,c02,c03,c04,c05⟩:=L.b0.a6
 go_wp2_with fail
 clear c00 c01 c02 c03 c04 c05
 obtain ⟨g2, hg2⟩:=nm9 (w5.heap.size)
 rw [hg2] at L hl9 ⊢
 clear hg2
 have hl_g2:=hl9
 clear hl9
 refine (G6.out _ _ (isD_n (m:=Z) (e:=Q) (s:=.slice A5 (zl Z) c5) (L.getN (by simp))) L.below).mono ?_
 rintro e w6 ⟨v9, rfl, iz, be⟩
 obtain ⟨A6, c6, rfl, _, in9⟩:=iz.form
 replace L:=(L.step be).n in9
 clear be iz in9
 have hl9:=L.b0.lt
 have L9:=L.subx (ns':=[(.slice A6 (zl Z) c6, Z.natAbs)]) (bs':=[(w.heap.size + 1, 26, #[.bool false, .slice none 0 0, .int .i64 0])]) (by simp) (by simp)
 clear L
 have L:=L9
 clear L9
 have n1 : w.heap.size + 1 ≠ w6.heap.size:=by omega
 obtain ⟨c00,c01,c02⟩:=L.b0.a3
 obtain ⟨f00,f01,f02⟩:=L.b0.f3
 have LN:=L.varD w6.heap.size rfl (ng Z) A6 (zl Z) c6 Q
 obtain ⟨v0,v1,v2⟩:=LN.b0.a3
 obtain ⟨v3,v4,v5⟩:=LN.tl.b0.a3
 obtain ⟨v6,v7,v8⟩:=LN.tl.b0.f3
 go_wp2_with fail
 clear c00 f00 c01 f01 c02 f02
 clear v0 v1 v2 v3 v4 v5 v6 v7 v8
 clear L
 have L:=LN.swap
 clear LN
 have LP:=L.putD (by omega) (by first | (simp; done) | (simp; omega)) (ng Z) A6 (zl Z) c6 (Q)
 obtain ⟨k0,k1,k2⟩:=LP.b0.a3
 unfold put3 at k0 k1 k2
 exact bodyPost_ret (v:=.agg #[.bool (ng Z), .slice A6 (zl Z) c6, .int .i64 (Q)]) (by simp [results, Tryz.results257, go_sem, k0, k1, k2]) rfl ⟨_, rfl, isD_n (LP.getN (by simp)), LP.below⟩

theorem ywhole_any (n : Int) (vx : Value) (w : World) (hx : IsD w vx (mkM n 0) (mkE n 0)) (hn : -4294967295 ≤ n ∧ n ≤ 4294967295) :
  Calls Tryz.prog 176 #[vx] w (RetI w n):=by
 have hb : AbP n 33:=by
  have e : (2 : Nat) ^ 33 = 8589934592:=by decide
  unfold AbP
  rw [e]
  omega
 obtain ⟨a1, _, a3, a4, a5, _⟩:=nf hb (by omega)
 have bz:=nf_zero hb (by omega)
 have a2 : zl (mkM n 0) ≤ 1:=Nat.le_trans (zl_mk _ _) (len_le1 (by omega))
 have g1:=fun x W h => dsign_any (mkM n 0) (mkE n 0) x W h (by omega)
 obtain ⟨A, c, rfl, _, hs⟩:=hx.form
 have L0:=(Lq.mk0 w).n hs
 obtain ⟨M, hM⟩:=nm9 (mkM n 0)
 obtain ⟨k, hk⟩ : ∃ k : Nat, mkE n 0 = (k : Int):=⟨(mkE n 0).toNat, by omega⟩
 rw [hM, hk] at g1 a5
 rw [hM] at bz a2 hs L0 ⊢
 rw [hk, show ((k : Int)).toNat = k by omega] at *
 obtain ⟨sg9, hsg9⟩:=nm9 (cmpI M 0)
 rw [hsg9] at g1
 have G1:=Hd9 g1
 clear g1 a1 a3 a4 hx hk
 by_cases h0 : n = 0
 ·subst h0
  have r6 : (sg9 == 0) = true:=by rw [← hsg9, bz.2 rfl]; decide
  clear bz a2 a5 hb hs hsg9
  go_enter Tryz.func176, Tryz.ntmps176
  have L:=(L0.varD (w.heap.size) (by simp) (ng M) A (zl M) c (k : Int))
  obtain ⟨c00,c01,c02⟩:=L.b0.a3
  (try go_wp2_with fail)
  refine (G1.out _ _ (isD_n (m:=M) (e:=(k : Int)) (s:=.slice A (zl M) c) (L.getN (by simp)))).mono ?_
  rintro e w1 ⟨rfl, be⟩
  clear c00 c01 c02
  replace L:=L.step be
  clear be
  (try go_wp2_with fail)
  go_ret
  exact ⟨rfl, L.below⟩
 ·have hM0 : M ≠ 0:=fun e => h0 (bz.1 e)
  have r6 : (sg9 == 0) = false:=by
   rw [← hsg9]
   unfold cmpI
   (repeat' split) <;> first | rfl | omega
  have hz1 : zl M = 1:=by
   have : len M.natAbs ≠ 0:=fun e => by have:=len_eq_zero e; omega
   have e : zl M = len M.natAbs:=rfl
   omega
  obtain ⟨x, hx⟩:=nm9 (M.natAbs)
  have hl1 : len x = 1:=by rw [← hx]; exact hz1
  have hx1 : x < 4294967296:=by
   have:=lt_pow_len x
   rw [hl1] at this; unfold W32 at this; omega
  have hd:=dig_of_len1 hl1
  obtain ⟨A', n', c', e9, hs'⟩:=hs
  rw [hx] at hs'
  rw [hz1] at e9 L0 ⊢
  injection e9 with e1 e2 e3
  subst e1 e2 e3
  obtain ⟨b, off, rfl, hbl, hc⟩:=hs'.place (by omega)
  have hc0:=hc 0 (by omega)
  rw [hd] at hc0
  simp only [nth, List.getD_cons_zero, Nat.add_zero] at hc0
  have hv : x * 2 ^ k = n.natAbs:=by rw [← a5, Int.natAbs_mul, hx, Int.natAbs_pow]; rfl
  have hk31 : k ≤ 31:=by
   have h1 : 1 * 2 ^ k ≤ x * 2 ^ k:=Nat.mul_le_mul_right _ (by omega)
   refine Nat.not_lt.1 fun hlt => ?_
   have h2:=Nat.pow_le_pow_right (n:=2) (by omega) hlt
   have e : (2 : Nat) ^ (31 + 1) = 4294967296:=by decide
   omega
  have hsg : ng M = decide (n < 0):=by
   have hp:=pow2_pos k
   unfold ng
   congr 1
   refine propext ⟨fun h => ?_, fun h => ?_⟩
   ·rw [← a5]
    exact Int.mul_neg_of_neg_of_pos h hp
   ·refine Int.not_le.1 fun hle => ?_
    have:=Int.mul_nonneg hle (Int.le_of_lt hp)
    omega
  have hxi : ((x : Nat) : Int) * 2 ^ k = (n.natAbs : Int):=by rw [← hv]; simp
  clear bz a2 a5 hb hsg9 hd hc hl1 hs' hx hz1
  rcases Int.lt_or_le n 0 with hneg | hpos
  ·have hng : ng M = true:=by rw [hsg, decide_eq_true hneg]
   have HN:=Hd9 hng
   clear hsg hng
   go_enter Tryz.func176, Tryz.ntmps176
   have L:=(L0.varD (w.heap.size) (by simp) (ng M) (some ⟨b, off, none⟩) 1 c (k : Int))
   obtain ⟨c00,c01,c02⟩:=L.b0.a3
   (try go_wp2_with fail)
   refine (G1.out _ _ (isD_n (m:=M) (e:=(k : Int)) (s:=.slice (some ⟨b, off, none⟩) 1 c) (L.getN (by simp)))).mono ?_
   rintro e w1 ⟨rfl, be⟩
   clear c00 c01 c02
   replace L:=L.step be
   clear be
   obtain ⟨c00,c01,c02⟩:=L.b0.a3
   have hc1:=(L.below.cell (p:=⟨b, off, none⟩) hbl).trans hc0
   have hng:=HN.out
   rw [hng] at c00
   have w1 : IntKind.i64.wrap ((x : Nat) : Int) = (x : Int):=by rw [IntKind.wrap_i64]; omega
   have w2 : IntKind.i64.wrap (n.natAbs : Int) = (n.natAbs : Int):=by rw [IntKind.wrap_i64]; omega
   have w3 : ¬ (k : Int) < 0:=by omega
   have w4 : IntKind.i64.wrap (-(n.natAbs : Int)) = -(n.natAbs : Int):=by rw [IntKind.wrap_i64]; omega
   (try go_wp2_with fail)
   go_quiet (fail)
   (try go_wp2_with fail)
   go_ret
   refine ⟨?_, belowN L.below _⟩
   show Ending.returned (.int .i64 (-(n.natAbs : Int))) = _
   rw [show -(n.natAbs : Int) = n by omega]
  ·have hng : ng M = false:=by rw [hsg, decide_eq_false (by omega)]
   have HN:=Hd9 hng
   clear hsg hng
   go_enter Tryz.func176, Tryz.ntmps176
   have L:=(L0.varD (w.heap.size) (by simp) (ng M) (some ⟨b, off, none⟩) 1 c (k : Int))
   obtain ⟨c00,c01,c02⟩:=L.b0.a3
   (try go_wp2_with fail)
   refine (G1.out _ _ (isD_n (m:=M) (e:=(k : Int)) (s:=.slice (some ⟨b, off, none⟩) 1 c) (L.getN (by simp)))).mono ?_
   rintro e w1 ⟨rfl, be⟩
   clear c00 c01 c02
   replace L:=L.step be
   clear be
   obtain ⟨c00,c01,c02⟩:=L.b0.a3
   have hc1:=(L.below.cell (p:=⟨b, off, none⟩) hbl).trans hc0
   have hng:=HN.out
   rw [hng] at c00
   have w1 : IntKind.i64.wrap ((x : Nat) : Int) = (x : Int):=by rw [IntKind.wrap_i64]; omega
   have w2 : IntKind.i64.wrap (n.natAbs : Int) = (n.natAbs : Int):=by rw [IntKind.wrap_i64]; omega
   have w3 : ¬ (k : Int) < 0:=by omega
   have w4 : IntKind.i64.wrap (-(n.natAbs : Int)) = -(n.natAbs : Int):=by rw [IntKind.wrap_i64]; omega
   (try go_wp2_with fail)
   go_quiet (fail)
   (try go_wp2_with fail)
   go_ret
   refine ⟨?_, belowN L.below _⟩
   show Ending.returned (.int .i64 ((n.natAbs : Int))) = _
   rw [show (n.natAbs : Int) = n by omega]
def prM (m n e f : Int) : Int:=mkM (m * n) (e + f)
def prE (m n e f : Int) : Int:=mkE (m * n) (e + f)
def sbM (m e n f : Int) : Int:=mkM (addS m e (-n) f) (min e f)
def sbE (m e n f : Int) : Int:=mkE (addS m e (-n) f) (min e f)
theorem df_nums {m e n f k g : Int} (lm : zl m ≤ 20) (ln : zl n ≤ 20) (lk : zl k ≤ 20) (he : -1000 ≤ e ∧ e ≤ 1000) (hf : -1000 ≤ f ∧ f ≤ 1000) (hg : -1000 ≤ g ∧ g ≤ 1000) :
  (mkR (n * k) (f + g) = 0 ∧ zl (prM n k f g) ≤ 40 ∧ (-2000 ≤ prE n k f g ∧ prE n k f g ≤ 3280)) ∧
  mkR (addS m e (-prM n k f g) (prE n k f g)) (min e (prE n k f g)) = 0 ∧ zl (sbM m e (prM n k f g) (prE n k f g)) ≤ 300 ∧ (-2000 ≤ sbE m e (prM n k f g) (prE n k f g) ∧ sbE m e (prM n k f g) (prE n k f g) ≤ 10600) ∧ Dv (sbM m e (prM n k f g) (prE n k f g)) (sbE m e (prM n k f g) (prE n k f g)) ∧
  dq (sbM m e (prM n k f g) (prE n k f g)) (sbE m e (prM n k f g) (prE n k f g)) = dq m e - dq n f * dq k g:=by
 have hz:=zl_mul n k
 have r1 : mkR (n * k) (f + g) = 0:=mk_fits9 (by omega) (by omega) (by omega)
 have z1:=zl_mk (n * k) (f + g)
 have z2:=mkE_at r1 (k:=40) (by omega)
 have d1:=dq_mk r1
 rw [dq_mul] at d1
 have z1' : zl (prM n k f g) ≤ 40:=by unfold prM; omega
 have z2' : -2000 ≤ prE n k f g ∧ prE n k f g ≤ 3280:=by unfold prE; omega
 have d1' : dq (prM n k f g) (prE n k f g) = dq n f * dq k g:=d1
 have zn:=zl_neg (prM n k f g)
 have z4:=zl_addS m e (-prM n k f g) (prE n k f g) 3280 (by omega) (by omega)
 have r2 : mkR (addS m e (-prM n k f g) (prE n k f g)) (min e (prE n k f g)) = 0:=mk_fits9 (by omega) (by omega) (by omega)
 have z5:=zl_mk (addS m e (-prM n k f g) (prE n k f g)) (min e (prE n k f g))
 have z6:=mkE_at r2 (k:=300) (by omega)
 have d2:=dq_mk r2
 rw [dq_add, dq_neg, d1'] at d2
 refine ⟨⟨r1, z1', z2'⟩, r2, by unfold sbM; omega, by unfold sbE; omega, mk_ok r2, ?_⟩
 unfold sbM sbE
 rw [d2]
 grind

theorem ydiff_any (m e n f k g : Int) (vx vy vz : Value) (w : World) (hx : IsD w vx m e) (hy : IsD w vy n f) (hz : IsD w vz k g) (lm : zl m ≤ 20) (ln : zl n ≤ 20) (lk : zl k ≤ 20) (he : -1000 ≤ e ∧ e ≤ 1000) (hf : -1000 ≤ f ∧ f ≤ 1000) (hg : -1000 ≤ g ∧ g ≤ 1000) (hT : Tab w) :
  Calls Tryz.prog 175 #[vx, vy, vz] w (RetI6 w (sbM m e (prM n k f g) (prE n k f g)) (sbE m e (prM n k f g) (prE n k f g)) (sbM m e (prM n k f g) (prE n k f g)) (sbE m e (prM n k f g) (prE n k f g))):=by
 obtain ⟨A, c, rfl, _, hn⟩:=hx.form
 obtain ⟨B, d, rfl, _, hn2⟩:=hy.form
 obtain ⟨C, d3, rfl, _, hn3⟩:=hz.form
 have L0:=(((Lq.mk0 w).n hn3).n hn2).n hn
 obtain ⟨⟨r1, z1, z2⟩, r2, z3, z4, v, q⟩:=df_nums (m:=m) (e:=e) (n:=n) (f:=f) (k:=k) (g:=g) lm ln lk he hf hg
 have g1:=fun x y W h j (hW : Below w.heap.size w W) => dmul_any n f k g x y W h j (by omega) (by omega) (by omega) (by omega) (hT.mono hW)
 rw [r1, show mkM (n * k) (f + g) = prM n k f g from rfl, show mkE (n * k) (f + g) = prE n k f g from rfl] at g1
 obtain ⟨M1, hM1⟩:=nm9 (prM n k f g)
 obtain ⟨E1, hE1⟩:=nm9 (prE n k f g)
 rw [hM1, hE1] at g1 r2 z3 z4 v q ⊢
 rw [hM1] at z1
 rw [hE1] at z2
 have g2:=fun x y W h j (hW : Below w.heap.size w W) => dsub_any m e M1 E1 x y W h j (by omega) (by omega) (by omega) (by omega) (hT.mono hW)
 rw [r2, show mkM (addS m e (-M1) E1) (min e E1) = sbM m e M1 E1 from rfl, show mkE (addS m e (-M1) E1) (min e E1) = sbE m e M1 E1 from rfl] at g2
 obtain ⟨M2, hM2⟩:=nm9 (sbM m e M1 E1)
 obtain ⟨E2, hE2⟩:=nm9 (sbE m e M1 E1)
 rw [hM2, hE2] at g2 v q ⊢
 rw [hM2] at z3
 rw [hE2] at z4
 have g3:=fun x W h => i10point_any M2 E2 x W h (by omega) (by omega) v
 clear r1 z1 z2 r2 z3 z4 v q hM1 hE1 hM2 hE2 lm ln lk he hf hg hT hx hy hz hn hn2 hn3
 have G1:=Hd9 g1
 have G2:=Hd9 g2
 have G3:=Hd9 g3
 clear g1 g2 g3
 go_enter Tryz.func175, Tryz.ntmps175
 have L:=((((L0.varD (w.heap.size) (by simp) (ng m) A (zl m) c e).varD (w.heap.size + 1) (by simp) (ng n) B (zl n) d f).varD (w.heap.size + 2) (by simp) (ng k) C (zl k) d3 g).varI (w.heap.size + 3) (by simp) false none 0 0 0 false none 0 0 0)
 obtain ⟨c10,c11,c12⟩:=L.tl.b0.a3
 obtain ⟨c20,c21,c22⟩:=L.tl.tl.b0.a3
 (try go_wp2_with fail)
 refine (G1.out _ _ _ (isD_n (m:=n) (e:=f) (s:=.slice B (zl n) d) (L.getN (by simp))) (isD_n (m:=k) (e:=g) (s:=.slice C (zl k) d3) (L.getN (by simp))) L.below).mono ?_
 rintro e w1 ⟨v9, rfl, iz, be⟩
 clear c10 c11 c12 c20 c21 c22
 obtain ⟨A4, c4, rfl, _, in9⟩:=iz.form
 replace L:=(L.step be).n in9
 clear be iz in9
 have hl9:=L.b0.lt
 replace L:=L.varD w1.heap.size rfl (ng M1) A4 (zl M1) c4 E1
 obtain ⟨c00,c01,c02⟩:=L.b0.a3
 obtain ⟨c40,c41,c42⟩:=L.tl.tl.tl.tl.b0.a3
 (try go_wp2_with fail)
 clear c00 c01 c02 c40 c41 c42
 obtain ⟨g1, hg1⟩:=nm9 (w1.heap.size)
 rw [hg1] at L hl9 ⊢
 clear hg1
 have hl_g1:=hl9
 clear hl9
 refine (G2.out _ _ _ (isD_n (m:=m) (e:=e) (s:=.slice A (zl m) c) (L.getN (by simp))) (isD_n (m:=M1) (e:=E1) (s:=.slice A4 (zl M1) c4) (L.getN (by simp))) L.below).mono ?_
 rintro e w2 ⟨v9, rfl, iz, be⟩
 obtain ⟨A5, c5, rfl, _, in9⟩:=iz.form
 replace L:=(L.step be).n in9
 clear be iz in9
 have hl9:=L.b0.lt
 replace L:=L.varD w2.heap.size rfl (ng M2) A5 (zl M2) c5 E2
 obtain ⟨c00,c01,c02⟩:=L.b0.a3
 (try go_wp2_with fail)
 clear c00 c01 c02
 obtain ⟨g2, hg2⟩:=nm9 (w2.heap.size)
 rw [hg2] at L hl9 ⊢
 clear hg2
 have hl_g2:=hl9
 clear hl9
 refine (G3.out _ _ (isD_n (m:=M2) (e:=E2) (s:=.slice A5 (zl M2) c5) (L.getN (by simp)))).mono ?_
 rintro e w3 ⟨v9, rfl, ii, be⟩
 obtain ⟨A6, c6, B6, d6, rfl, ia, ib⟩:=ii.form
 replace L:=((L.step be).n ib).n ia
 clear be ii ia ib
 have L9:=L.subx (ns':=[(.slice A6 (zl M2) c6, M2.natAbs), (.slice B6 (zl M2) d6, M2.natAbs)]) (bs':=[(w.heap.size + 1 + 1 + 1, 28, #[.bool false, .slice none 0 0, .int .i64 0, .bool false, .slice none 0 0, .int .i64 0])]) (by simp) (by simp)
 clear L
 have L:=L9
 clear L9
 obtain ⟨c00,c01,c02,c03,c04,c05⟩:=L.b0.a6
 obtain ⟨f00,f01,f02,f03,f04,f05⟩:=L.b0.f6
 (try go_wp2_with fail)
 clear c00 f00 c01 f01 c02 f02 c03 f03 c04 f04 c05 f05
 have LP:=L.putI (by omega) (by first | (simp; done) | (simp; omega)) (ng M2) A6 (zl M2) c6 E2 (ng M2) B6 (zl M2) d6 E2
 obtain ⟨k0,k1,k2,k3,k4,k5⟩:=LP.b0.a6
 unfold put6 at k0 k1 k2 k3 k4 k5
 exact bodyPost_ret (v:=.agg #[.bool (ng M2), .slice A6 (zl M2) c6, .int .i64 E2, .bool (ng M2), .slice B6 (zl M2) d6, .int .i64 E2]) (by simp [results, Tryz.results175, go_sem, k0, k1, k2, k3, k4, k5]) rfl ⟨_, rfl, isI_n (LP.getN (by simp)) (LP.getN (by simp)), LP.below⟩
theorem mk_32 : mkM 1 32 = 1 ∧ mkE 1 32 = 32 ∧ mkR 1 32 = 0:=by
 refine ⟨?_, ?_, ?_⟩ <;> decide +kernel

theorem yturn_any (m e : Int) (vx : Value) (w : World) (hx : IsD w vx m e) (lm : zl m ≤ 500) (he : -10000 ≤ e ∧ e ≤ 10000) (hv : Dv m e) (hS : smallB m e m e = true) (hT : Tab w) :
  Calls Tryz.prog 105 #[vx] w (RetB w (inB m e m e (-1) 32 1 32)):=by
 obtain ⟨A, c, rfl, _, hn⟩:=hx.form
 have L0:=(Lq.mk0 w).n hn
 have hpm : permB (-32) = true:=by decide
 obtain ⟨y1, y2, y3⟩:=g_yes hpm 1
 have g1:=fun W (hW : Below w.heap.size w W) => gunit_any (-32) W (by omega) (by omega) (hT.mono hW)
 obtain ⟨k1, k2, k3⟩:=mk_32
 rw [y1, y2, y3, show -(-32 : Int) = 32 from rfl, k1, k2, k3] at g1
 have z11 : zl 1 ≤ 1:=len_le1 (show 1 < 4294967296 by omega)
 have z12 : zl (-1) ≤ 1:=len_le1 (show (-1 : Int).natAbs < 4294967296 by decide)
 have g2:=fun x W h => i10point_any m e x W h (by omega) (by omega) hv
 have g3:=fun x W h => asmall_any m e m e x W h (by omega) (by omega) (by omega) (by omega) hv hv
 rw [hS] at g3
 have g4:=fun x W h => dneg_any 1 32 x W h (by omega)
 have g5:=fun x y W h j => i10within_any m e m e (-1) 32 1 32 x y W h j (by omega) (by omega) (by omega) (by omega) (by omega) (by omega) (by omega) (by omega)
 obtain ⟨b9, hb9⟩:=nm9 (inB m e m e (-1) 32 1 32)
 rw [hb9] at g5 ⊢
 clear y1 y2 y3 hpm k1 k2 k3 z11 z12 hS hv lm he hT hx hn hb9
 have G1:=Hd9 g1
 have G2:=Hd9 g2
 have G3:=Hd9 g3
 have G4:=Hd9 g4
 have G5:=Hd9 g5
 clear g1 g2 g3 g4 g5
 go_enter Tryz.func105, Tryz.ntmps105
 have L:=(L0.varD (w.heap.size) (by simp) (ng m) A (zl m) c e)
 (try go_wp2_with fail)
 refine (G1.out _ L.below).mono ?_
 rintro e w1 ⟨v9, rfl, iz, be⟩
 obtain ⟨A1, c1, rfl, _, in9⟩:=iz.form
 replace L:=(L.step be).n in9
 clear be iz in9
 have hl9:=L.b0.lt
 replace L:=L.varD w1.heap.size rfl (ng 1) A1 (zl 1) c1 32
 obtain ⟨c00,c01,c02⟩:=L.b0.a3
 obtain ⟨c10,c11,c12⟩:=L.tl.b0.a3
 (try go_wp2_with fail)
 clear c00 c01 c02 c10 c11 c12
 obtain ⟨g1, hg1⟩:=nm9 (w1.heap.size)
 rw [hg1] at L hl9 ⊢
 clear hg1
 have hl_g1:=hl9
 clear hl9
 refine (G2.out _ _ (isD_n (m:=m) (e:=e) (s:=.slice A (zl m) c) (L.getN (by simp)))).mono ?_
 rintro e w2 ⟨v9, rfl, ii, be⟩
 obtain ⟨A2, c2, B2, d2, rfl, ia, ib⟩:=ii.form
 replace L:=((L.step be).n ib).n ia
 clear be ii ia ib
 have hl9:=L.b0.lt
 replace L:=L.varI w2.heap.size rfl (ng m) A2 (zl m) c2 e (ng m) B2 (zl m) d2 e
 (try go_wp2_with fail)
 obtain ⟨g2, hg2⟩:=nm9 (w2.heap.size)
 rw [hg2] at L hl9 ⊢
 clear hg2
 have hl_g2:=hl9
 clear hl9
 replace L:=L.drew
 obtain ⟨c00,c01,c02,c03,c04,c05⟩:=L.b0.a6
 obtain ⟨c10,c11,c12⟩:=L.tl.b0.a3
 go_region_held3 (fun w' => w'.cell? ⟨g2, 0, none⟩ = some (.bool (ng m)) ∧ w'.cell? ⟨g2, 1, none⟩ = some (.slice A2 (zl m) c2) ∧ w'.cell? ⟨g2, 2, none⟩ = some (.int .i64 e) ∧ w'.cell? ⟨g2, 3, none⟩ = some (.bool (ng m)) ∧ w'.cell? ⟨g2, 4, none⟩ = some (.slice B2 (zl m) d2) ∧ w'.cell? ⟨g2, 5, none⟩ = some (.int .i64 e) ∧ w'.cell? ⟨g1, 0, none⟩ = some (.bool (ng 1)) ∧ w'.cell? ⟨g1, 1, none⟩ = some (.slice A1 (zl 1) c1) ∧ w'.cell? ⟨g1, 2, none⟩ = some (.int .i64 32)) (first | (with_reducible exact ⟨L.b0.c60, L.b0.c61, L.b0.c62, L.b0.c63, L.b0.c64, L.b0.c65, L.tl.b0.c30, L.tl.b0.c31, L.tl.b0.c32⟩) | exact ⟨L.b0.c60, L.b0.c61, L.b0.c62, L.b0.c63, L.b0.c64, L.b0.c65, L.tl.b0.c30, L.tl.b0.c31, L.tl.b0.c32⟩) (first | (go_at_call 62; (with_reducible refine (G3.out _ _ ?_).mono ?_); (· (refine isI_n (L.getN ?_) (L.getN ?_); all_goals (repeat (first | (with_reducible exact mS) | apply mT)))); rintro e wh ⟨rfl, be⟩; replace L:=L.step be; clear be) | (go_at_call 116; (with_reducible refine (G4.out _ _ ?_).mono ?_); (· (refine isD_n (L.getN ?_); (repeat (first | (with_reducible exact mS) | apply mT)))); rintro e wh ⟨vh, rfl, id, be⟩; obtain ⟨A5, c5, rfl, _, in9⟩:=id.form; replace L:=(L.step be).n in9; clear be id in9) | (go_at_call 172; (with_reducible refine (G5.out _ _ _ ?_ ?_).mono ?_); (· (refine isI_n (L.getN ?_) (L.getN ?_); all_goals (repeat (first | (with_reducible exact mS) | apply mT)))); (· (refine isI_n (L.getN ?_) (L.getN ?_); all_goals (repeat (first | (with_reducible exact mS) | apply mT)))); rintro e wh ⟨rfl, be⟩; replace L:=L.step be; clear be))
 (try go_wp2_with fail)
 (try go_ret)
 exact ⟨rfl, L.below⟩
def nq (z : Rat × Rat) : Rat:=z.1 * z.1 + z.2 * z.2
def cm (z w : Rat × Rat) : Rat × Rat:=(z.1 * w.1 - z.2 * w.2, z.1 * w.2 + z.2 * w.1)
def cq : Nat → Rat × Rat → Rat × Rat
 | 0, z => z
 | n + 1, z => cm (cq n z) (cq n z)
theorem cq_succ (n : Nat) (z : Rat × Rat) : cq (n + 1) z = cm (cq n z) (cq n z):=rfl
theorem nq_cm (z w : Rat × Rat) : nq (cm z w) = nq z * nq w:=by unfold nq cm; grind
theorem nq_nn (z : Rat × Rat) : 0 ≤ nq z:=by
 have:=rsq_nn z.1
 have:=rsq_nn z.2
 unfold nq
 grind
theorem nq_cq (n : Nat) (z : Rat × Rat) : nq (cq n z) = sqn n (nq z):=by
 induction n with
 | zero => rfl
 | succ n ih => rw [cq_succ, nq_cm, ih, sqn_succ]
theorem cm_ext {z w : Rat × Rat} (h1 : z.1 = w.1) (h2 : z.2 = w.2) : z = w:=Prod.ext h1 h2
theorem cq_cm (n : Nat) (z w : Rat × Rat) : cq n (cm z w) = cm (cq n z) (cq n w):=by
  induction n with
  | zero => rfl
  | succ n ih =>
    rw [cq_succ, cq_succ, cq_succ, ih]
    apply cm_ext
    · unfold cm; grind
    · unfold cm; grind
def ds (z w : Rat × Rat) : Rat:=(z.1 - w.1) * (z.1 - w.1) + (z.2 - w.2) * (z.2 - w.2)
theorem ds_nn (z w : Rat × Rat) : 0 ≤ ds z w:=by
 have:=rsq_nn (z.1 - w.1)
 have:=rsq_nn (z.2 - w.2)
 unfold ds
 grind
theorem ds_sq (z w : Rat × Rat) : ds (cm z z) (cm w w) ≤ ds z w * (2 * (nq z + nq w)):=by
 have e : ds (cm z z) (cm w w) = ds z w * nq (z.1 + w.1, z.2 + w.2):=by unfold ds cm nq; grind
 rw [e]
 refine Rat.mul_le_mul_of_nonneg_left ?_ (ds_nn z w)
 have:=rsq_nn (z.1 - w.1)
 have:=rsq_nn (z.2 - w.2)
 unfold nq
 grind
theorem sqn_le_two {n : Nat} {b : Rat} (hb : 0 ≤ b) (h : sqn n b ≤ 2) {j : Nat} (hj : j ≤ n) : sqn j b ≤ 2:=by
  by_cases h1 : b ≤ 1
  · have:=sqn_mono (n:=j) hb h1
    rw [sqn_one] at this
    grind
  · have up : ∀ k, 1 ≤ sqn k b:=fun k => by
      have:=sqn_mono (n:=k) (show (0 : Rat) ≤ 1 by grind) (show 1 ≤ b by grind)
      rwa [sqn_one] at this
    have mono : ∀ d, sqn j b ≤ sqn (j + d) b:=fun d => by
      induction d with
      | zero => exact Rat.le_refl
      | succ d ih =>
        refine Rat.le_trans ih ?_
        rw [show j + (d + 1) = (j + d) + 1 from rfl, sqn_succ]
        have a:=up (j + d)
        have:=Rat.mul_le_mul_of_nonneg_left a (show 0 ≤ sqn (j + d) b by grind)
        grind
    have:=mono (n - j)
    rw [show j + (n - j) = n by omega] at this
    exact Rat.le_trans this h
theorem ds_cq (n : Nat) {z w : Rat × Rat} (hz : sqn n (nq z) ≤ 2) (hw : sqn n (nq w) ≤ 2) : ds (cq n z) (cq n w) ≤ ds z w * rp 8 n:=by
  have : ∀ j, j ≤ n → ds (cq j z) (cq j w) ≤ ds z w * rp 8 j:=fun j => by
    induction j with
    | zero => intro _; show ds z w ≤ ds z w * 1; grind
    | succ j ih =>
      intro hj
      have a:=ih (by omega)
      have b:=ds_sq (cq j z) (cq j w)
      rw [cq_succ, cq_succ]
      refine Rat.le_trans b ?_
      have c1:=sqn_le_two (nq_nn z) hz (show j ≤ n by omega)
      have c2:=sqn_le_two (nq_nn w) hw (show j ≤ n by omega)
      rw [← nq_cq] at c1 c2
      have d:=Rat.mul_le_mul_of_nonneg_left (show 2 * (nq (cq j z) + nq (cq j w)) ≤ 8 by grind) (ds_nn (cq j z) (cq j w))
      refine Rat.le_trans d ?_
      have e:=Rat.mul_le_mul_of_nonneg_right a (show (0 : Rat) ≤ 8 by grind)
      show _ ≤ ds z w * (rp 8 j * 8)
      grind
  exact this n Nat.le.refl
theorem hn_rp (n : Nat) : hn n * hn n * hn n * rp 8 n = 1:=by
  induction n with
  | zero => show (1 : Rat) * 1 * 1 * 1 = 1; grind
  | succ n ih =>
    show hn n / 2 * (hn n / 2) * (hn n / 2) * (rp 8 n * 8) = 1
    grind
theorem hn_add (a b : Nat) : hn (a + b) = hn a * hn b:=by
 induction b with
 | zero => show hn a = hn a * 1; grind
 | succ b ih => show hn (a + b) / 2 = hn a * (hn b / 2); grind
theorem sqn_small (n : Nat) {y : Rat} (h0 : 0 ≤ y) (h1 : y ≤ 1 / 2) : sqn n (1 + y * hn n) ≤ 1 + 2 * y:=by
 have hp:=hn_pos n
 have hq:=hn_le (Nat.zero_le n)
 have hz : hn 0 = 1:=rfl
 have b:=bern n (y := -y) (by grind)
 have y1:=Rat.mul_nonneg h0 (Rat.le_of_lt hp)
 have y2 : y * hn n ≤ 1 / 2:=by
  have:=Rat.mul_le_mul_of_nonneg_left (show hn n ≤ 1 by grind) h0
  grind
 have p:=sqn_mono (n:=n) (b:=(1 + y * hn n) * (1 + -y * hn n)) (c:=1) (Rat.mul_nonneg (by grind) (by grind)) (by
  have:=rsq_nn (y * hn n)
  grind)
 rw [sqn_one, sqn_mul] at p
 have q:=sqn_nn (n:=n) (show 0 ≤ 1 + y * hn n by grind)
 have r:=Rat.mul_le_mul_of_nonneg_left b q
 have s : sqn n (1 + y * hn n) * (1 - y) ≤ 1:=by grind
 refine le_of_mul (c:=1 - y) (by grind) (Rat.le_trans s ?_)
 have:=Rat.mul_le_mul_of_nonneg_left h1 h0
 grind
def eP (n : Nat) (x : Rat) : Rat × Rat:=cq n (1, x * hn n)
theorem eP_nq {n : Nat} {x : Rat} (h : x * x * hn n ≤ 1 / 2) : 1 ≤ nq (eP n x) ∧ nq (eP n x) ≤ 1 + 2 * (x * x * hn n):=by
 unfold eP
 rw [nq_cq, show nq (1, x * hn n) = 1 + x * x * hn n * hn n by unfold nq; grind]
 have a:=Rat.mul_nonneg (rsq_nn x) (Rat.le_of_lt (hn_pos n))
 refine ⟨?_, sqn_small n a h⟩
 have:=sqn_mono (n:=n) (show (0 : Rat) ≤ 1 by grind) (show (1 : Rat) ≤ 1 + x * x * hn n * hn n by
  have:=Rat.mul_nonneg a (Rat.le_of_lt (hn_pos n))
  grind)
 rwa [sqn_one] at this
theorem eP_add {n : Nat} {x y : Rat} (hx : x * x * hn n ≤ 1 / 8) (hy : y * y * hn n ≤ 1 / 8) (hxy : (x + y) * (x + y) * hn n ≤ 1 / 2) : ds (cm (eP n x) (eP n y)) (eP n (x + y)) ≤ x * y * (x * y) * hn n:=by
 have ax:=Rat.mul_nonneg (rsq_nn x) (Rat.le_of_lt (hn_pos n))
 have ay:=Rat.mul_nonneg (rsq_nn y) (Rat.le_of_lt (hn_pos n))
 have a:=sqn_small n ax (by grind)
 have b:=sqn_small n ay (by grind)
 have axy:=Rat.mul_nonneg (rsq_nn (x + y)) (Rat.le_of_lt (hn_pos n))
 have c:=sqn_small n axy hxy
 unfold eP
 rw [← cq_cm]
 have d:=ds_cq n (z:=cm (1, x * hn n) (1, y * hn n)) (w:=(1, (x + y) * hn n)) (by
  rw [nq_cm, sqn_mul, show nq (1, x * hn n) = 1 + x * x * hn n * hn n by unfold nq; grind, show nq (1, y * hn n) = 1 + y * y * hn n * hn n by unfold nq; grind]
  have q:=sqn_nn (n:=n) (show 0 ≤ 1 + x * x * hn n * hn n by
   have:=Rat.mul_nonneg ax (Rat.le_of_lt (hn_pos n))
   grind)
  have:=rmul_le (show sqn n (1 + x * x * hn n * hn n) ≤ 5 / 4 by grind) (show sqn n (1 + y * y * hn n * hn n) ≤ 5 / 4 by grind) (sqn_nn (n:=n) (show 0 ≤ 1 + y * y * hn n * hn n by
   have:=Rat.mul_nonneg ay (Rat.le_of_lt (hn_pos n))
   grind)) (by grind)
  grind) (by
  rw [show nq (1, (x + y) * hn n) = 1 + (x + y) * (x + y) * hn n * hn n by unfold nq; grind]
  grind)
 refine Rat.le_trans d ?_
 have e : ds (cm (1, x * hn n) (1, y * hn n)) (1, (x + y) * hn n) = x * y * (x * y) * hn n * (hn n * hn n * hn n):=by unfold ds cm; grind
 rw [e]
 have:=hn_rp n
 have f : x * y * (x * y) * hn n * (hn n * hn n * hn n) * rp 8 n = x * y * (x * y) * hn n * (hn n * hn n * hn n * rp 8 n):=by grind
 rw [f, this]
 grind
theorem abs_of_sq {u e : Rat} (he : 0 ≤ e) (h : u * u ≤ e * e) : -e ≤ u ∧ u ≤ e:=by
 constructor
 ·refine Rat.not_lt.1 fun hlt => ?_
  have:=Rat.mul_pos (show 0 < -e - u by grind) (show 0 < -u + e by grind)
  grind
 ·refine Rat.not_lt.1 fun hlt => ?_
  have:=Rat.mul_pos (show 0 < u - e by grind) (show 0 < u + e by grind)
  grind
theorem of_ds {z w : Rat × Rat} {e : Rat} (he : 0 ≤ e) (h : ds z w ≤ e * e) : (-e ≤ z.1 - w.1 ∧ z.1 - w.1 ≤ e) ∧ -e ≤ z.2 - w.2 ∧ z.2 - w.2 ≤ e:=by
 have:=rsq_nn (z.1 - w.1)
 have:=rsq_nn (z.2 - w.2)
 unfold ds at h
 exact ⟨abs_of_sq he (by grind), abs_of_sq he (by grind)⟩
theorem eP_neg (n : Nat) (x : Rat) : (eP n (-x)).1 = (eP n x).1 ∧ (eP n (-x)).2 = -(eP n x).2:=by
  have : ∀ k (a b : Rat), (cq k (a, -b)).1 = (cq k (a, b)).1 ∧ (cq k (a, -b)).2 = -(cq k (a, b)).2:=fun k a b => by
    induction k with
    | zero => exact ⟨rfl, rfl⟩
    | succ k ih =>
      rw [cq_succ, cq_succ]
      unfold cm
      constructor
      · show _ * _ - _ * _ = _
        rw [ih.1, ih.2]; grind
      · show _ * _ + _ * _ = _
        rw [ih.1, ih.2]; grind
  unfold eP
  rw [show -x * hn n = -(x * hn n) by grind]
  exact this n 1 (x * hn n)
def sc : Nat → Rat
 | 0 => 1
 | 1 => 0
 | k + 2 => -sc k
def ss : Nat → Rat
 | 0 => 0
 | k + 1 => sc k
theorem ss_succ (k : Nat) : ss (k + 1) = sc k:=rfl
theorem sc_succ (k : Nat) : sc (k + 1) = -ss k:=by
 cases k with
 | zero => show (0 : Rat) = -0; grind
 | succ k => rfl
theorem sc_one (k : Nat) : (-1 ≤ sc k ∧ sc k ≤ 1) ∧ -1 ≤ ss k ∧ ss k ≤ 1:=by
 induction k with
 | zero => exact ⟨⟨by decide, by decide⟩, by decide, by decide⟩
 | succ k ih => rw [sc_succ, ss_succ]; grind
def tC : Nat → Rat → Rat
 | 0, _ => 0
 | k + 1, x => tC k x + sc k * tm k x
def tS : Nat → Rat → Rat
 | 0, _ => 0
 | k + 1, x => tS k x + ss k * tm k x
theorem tC_succ (k : Nat) (x : Rat) : tC (k + 1) x = tC k x + sc k * tm k x:=rfl
theorem tS_succ (k : Nat) (x : Rat) : tS (k + 1) x = tS k x + ss k * tm k x:=rfl
def Ab (x b : Rat) : Prop := -b ≤ x ∧ x ≤ b
theorem Ab.nn {x b : Rat} (h : Ab x b) : 0 ≤ b:=by unfold Ab at h; grind
theorem Ab.add {x y b c : Rat} (h : Ab x b) (k : Ab y c) : Ab (x + y) (b + c):=by unfold Ab at *; grind
theorem Ab.sub {x y b c : Rat} (h : Ab x b) (k : Ab y c) : Ab (x - y) (b + c):=by unfold Ab at *; grind
theorem Ab.neg {x b : Rat} (h : Ab x b) : Ab (-x) b:=by unfold Ab at *; grind
theorem Ab.le {x b c : Rat} (h : Ab x b) (k : b ≤ c) : Ab x c:=by unfold Ab at *; grind
theorem Ab.mul {x y b c : Rat} (h : Ab x b) (k : Ab y c) : Ab (x * y) (b * c):=by
 have hb:=h.nn
 have hc:=k.nn
 unfold Ab at *
 have a1:=Rat.mul_nonneg (show 0 ≤ b - x by grind) (show 0 ≤ c + y by grind)
 have a2:=Rat.mul_nonneg (show 0 ≤ b + x by grind) (show 0 ≤ c - y by grind)
 have a3:=Rat.mul_nonneg (show 0 ≤ b - x by grind) (show 0 ≤ c - y by grind)
 have a4:=Rat.mul_nonneg (show 0 ≤ b + x by grind) (show 0 ≤ c + y by grind)
 constructor <;> grind
theorem Ab.sq {x b : Rat} (h : Ab x b) : x * x ≤ b * b:=(h.mul h).2
theorem Ab.divs {x b c : Rat} (h : Ab x b) (hc : 1 ≤ c) : Ab (x / c) b:=by
 have hb:=h.nn
 have e : x / c * c = x:=Rat.div_mul_cancel (by grind)
 unfold Ab at *
 have hcb:=Rat.mul_le_mul_of_nonneg_left hc hb
 constructor
 ·refine le_of_mul (c:=c) (by grind) ?_
  rw [e]; grind
 ·refine le_of_mul (c:=c) (by grind) ?_
  rw [e]; grind
theorem tm_ab {x X : Rat} (h : Ab x X) (k : Nat) : Ab (tm k x) (rp X k):=by
  induction k with
  | zero => show Ab 1 1; unfold Ab; grind
  | succ k ih =>
    have:=nat_nn k
    exact (ih.mul h).divs (by grind)
theorem tm_ab1 {x : Rat} (h : Ab x 1) (k : Nat) : Ab (tm k x) 1:=by
 have:=tm_ab h k
 have e : ∀ k, rp 1 k = 1:=fun k => by
  induction k with
  | zero => rfl
  | succ k ih => show rp 1 k * 1 = 1; rw [ih]; grind
 rwa [e] at this
theorem tm_step (k : Nat) {x h : Rat} (hx : Ab x 1) (hy : Ab (x + h) 1) : Ab (tm (k + 1) (x + h) - tm (k + 1) x - h * tm k x) (h * h):=by
  have hh:=rsq_nn h
  induction k with
  | zero =>
    have e : ∀ x : Rat, tm 1 x = x:=fun x => by
      have:=tm_mul 0 x
      rw [show tm 0 x = 1 from rfl, show ((0 : Nat) : Rat) = 0 from rfl] at this
      grind
    rw [e, e, show tm 0 x = 1 from rfl]
    unfold Ab
    grind
  | succ k ih =>
    have h0:=nat_nn k
    have a1:=tm_mul (k + 1) (x + h)
    have a2:=tm_mul (k + 1) x
    have a4:=tm_mul k x
    have e : ((k + 1 : Nat) : Rat) = (k : Rat) + 1:=by push_cast; rfl
    rw [e] at a1 a2
    have b1:=tm_ab1 hx k
    have c1:=ih.mul hy
    have c2 : Ab (h * h * tm k x) (h * h * 1):=(show Ab (h * h) (h * h) by unfold Ab; grind).mul b1
    have d:=c1.add c2
    have f : (tm (k + 1 + 1) (x + h) - tm (k + 1 + 1) x - h * tm (k + 1) x) * ((k : Rat) + 1 + 1) = (tm (k + 1) (x + h) - tm (k + 1) x - h * tm k x) * (x + h) + h * h * tm k x:=by
      have : h * (tm (k + 1) x * ((k : Rat) + 1)) = h * (tm k x * x):=by rw [a4]
      grind
    rw [← f] at d
    have g:=Rat.mul_nonneg hh h0
    unfold Ab at *
    constructor
    · refine le_of_mul (c:=(k : Rat) + 1 + 1) (by grind) ?_
      grind
    · refine le_of_mul (c:=(k : Rat) + 1 + 1) (by grind) ?_
      grind
theorem tCS_step (K : Nat) {x h : Rat} (hx : Ab x 1) (hy : Ab (x + h) 1) : Ab (tC (K + 1) (x + h) - tC (K + 1) x + h * tS K x) ((K : Rat) * (h * h)) ∧ Ab (tS (K + 1) (x + h) - tS (K + 1) x - h * tC K x) ((K : Rat) * (h * h)):=by
  induction K with
  | zero =>
    rw [show ((0 : Nat) : Rat) = 0 from rfl]
    show Ab (0 + 1 * 1 - (0 + 1 * 1) + h * 0) _ ∧ Ab (0 + 0 * 1 - (0 + 0 * 1) - h * 0) _
    unfold Ab
    grind
  | succ K ih =>
    have s:=tm_step K hx hy
    have e : ((K + 1 : Nat) : Rat) = (K : Rat) + 1:=by push_cast; rfl
    rw [e]
    have o:=sc_one K
    have p1:=(show Ab (-ss K) 1 by unfold Ab; grind).mul s
    have p2:=(show Ab (sc K) 1 by unfold Ab; grind).mul s
    have q1:=ih.1.add p1
    have q2:=ih.2.add p2
    have u1:=tC_succ (K + 1) (x + h)
    have u2:=tC_succ (K + 1) x
    have u3:=tS_succ (K + 1) (x + h)
    have u4:=tS_succ (K + 1) x
    have u5:=tS_succ K x
    have u6:=tC_succ K x
    rw [sc_succ] at u1 u2
    rw [ss_succ] at u3 u4
    have w1 : tC (K + 1 + 1) (x + h) - tC (K + 1 + 1) x + h * tS (K + 1) x = tC (K + 1) (x + h) - tC (K + 1) x + h * tS K x + -ss K * (tm (K + 1) (x + h) - tm (K + 1) x - h * tm K x):=by
      rw [u1, u2, u5]; grind
    have w2 : tS (K + 1 + 1) (x + h) - tS (K + 1 + 1) x - h * tC (K + 1) x = tS (K + 1) (x + h) - tS (K + 1) x - h * tC K x + sc K * (tm (K + 1) (x + h) - tm (K + 1) x - h * tm K x):=by
      rw [u3, u4, u6]; grind
    rw [w1, w2]
    exact ⟨q1.le (by grind), q2.le (by grind)⟩
def cx (h : Rat) : Nat → Rat × Rat
 | 0 => (1, 0)
 | j + 1 => cm (cx h j) (1, h)
theorem cx_add (h : Rat) (i j : Nat) : cx h (i + j) = cm (cx h i) (cx h j):=by
  induction j with
  | zero =>
    show cx h i = cm (cx h i) (1, 0)
    apply cm_ext
    · unfold cm; grind
    · unfold cm; grind
  | succ j ih =>
    show cm (cx h (i + j)) (1, h) = cm (cx h i) (cm (cx h j) (1, h))
    rw [ih]
    apply cm_ext
    · unfold cm; grind
    · unfold cm; grind
theorem cx_cq (h : Rat) (n : Nat) : cx h (2 ^ n) = cq n (1, h):=by
  induction n with
  | zero =>
    show cm (1, 0) (1, h) = (1, h)
    apply cm_ext
    · unfold cm; grind
    · unfold cm; grind
  | succ n ih => rw [Nat.pow_succ, Nat.mul_two, cx_add, ih, cq_succ]
theorem tCS_cx (K : Nat) {h H X t : Rat} (hh : Ab h H) (ht : ∀ x, Ab x X → Ab (tm K x) t) (hX : X ≤ 1 / 2) (j : Nat) (hj : (j : Rat) * H ≤ X) :
    Ab ((tC (K + 1) ((j : Rat) * h)) - (cx h j).1) (2 * ((j : Rat) * H) * ((K : Rat) * H + t)) ∧ Ab ((tS (K + 1) ((j : Rat) * h)) - (cx h j).2) (2 * ((j : Rat) * H) * ((K : Rat) * H + t)):=by
  have hH:=hh.nn
  have hK:=nat_nn K
  induction j with
  | zero =>
    rw [show ((0 : Nat) : Rat) = 0 from rfl]
    have e : ∀ K, tC (K + 1) (0 * h) = 1 ∧ tS (K + 1) (0 * h) = 0:=fun K => by
      induction K with
      | zero =>
        show (0 : Rat) + 1 * 1 = 1 ∧ (0 : Rat) + 0 * 1 = 0
        grind
      | succ K ih =>
        have : tm (K + 1) (0 * h) = 0:=by
          show tm K (0 * h) * (0 * h) / _ = 0
          rw [show tm K (0 * h) * (0 * h) = 0 by grind, Rat.div_def]
          grind
        rw [tC_succ, tS_succ, ih.1, ih.2, this]
        grind
    rw [(e K).1, (e K).2]
    show Ab (1 - 1) _ ∧ Ab (0 - 0) _
    unfold Ab
    grind
  | succ j ih =>
    have hj0:=nat_nn j
    have e : ((j + 1 : Nat) : Rat) = (j : Rat) + 1:=by push_cast; rfl
    rw [e] at hj ⊢
    have hjH:=Rat.mul_nonneg hj0 hH
    have i:=ih (by grind)
    have ax : Ab ((j : Rat) * h) ((j : Rat) * H):=(show Ab (j : Rat) (j : Rat) by unfold Ab; grind).mul hh
    have ay:=ax.add hh
    have s:=tCS_step K (x:=(j : Rat) * h) (h:=h) (ax.le (by grind)) (ay.le (by grind))
    have o:=sc_one K
    have t1:=ht _ (ax.le (c:=X) (by grind))
    have t0:=t1.nn
    have v1:=(hh.mul ((show Ab (sc K) 1 by unfold Ab; grind).mul t1))
    have v2:=(hh.mul ((show Ab (ss K) 1 by unfold Ab; grind).mul t1))
    have hsq : Ab ((K : Rat) * (h * h)) ((K : Rat) * (H * H)):=(show Ab (K : Rat) (K : Rat) by unfold Ab; grind).mul (hh.mul hh)
    have w1:=hh.mul i.1
    have w2:=hh.mul i.2
    have a1:=((i.1.sub w2).add v2).add (s.1.le hsq.2)
    have a2:=((i.2.add w1).sub v1).add (s.2.le hsq.2)
    obtain ⟨R, hR⟩ : ∃ R, R = (K : Rat) * H + t:=⟨_, rfl⟩
    have R0 : 0 ≤ R:=by
      have:=Rat.mul_nonneg hK hH
      grind
    have b:=Rat.mul_nonneg hH R0
    have b2:=Rat.mul_le_mul_of_nonneg_right (show 2 * ((j : Rat) * H) ≤ 1 by grind) b
    have eR : H * (1 * t) + (K : Rat) * (H * H) = H * R:=by rw [hR]; grind
    rw [← hR] at a1 a2 ⊢
    have f1 : tC (K + 1) (((j : Rat) + 1) * h) - (cx h (j + 1)).1 = tC (K + 1) ((j : Rat) * h) - (cx h j).1 - h * (tS (K + 1) ((j : Rat) * h) - (cx h j).2) + h * (ss K * tm K ((j : Rat) * h)) + (tC (K + 1) ((j : Rat) * h + h) - tC (K + 1) ((j : Rat) * h) + h * tS K ((j : Rat) * h)):=by
      rw [show ((j : Rat) + 1) * h = (j : Rat) * h + h by grind, show (cx h (j + 1)).1 = (cx h j).1 * 1 - (cx h j).2 * h from rfl, tS_succ K]
      grind
    have f2 : tS (K + 1) (((j : Rat) + 1) * h) - (cx h (j + 1)).2 = tS (K + 1) ((j : Rat) * h) - (cx h j).2 + h * (tC (K + 1) ((j : Rat) * h) - (cx h j).1) - h * (sc K * tm K ((j : Rat) * h)) + (tS (K + 1) ((j : Rat) * h + h) - tS (K + 1) ((j : Rat) * h) - h * tC K ((j : Rat) * h)):=by
      rw [show ((j : Rat) + 1) * h = (j : Rat) * h + h by grind, show (cx h (j + 1)).2 = (cx h j).1 * h + (cx h j).2 * 1 from rfl, tC_succ K]
      grind
    rw [f1, f2]
    exact ⟨a1.le (by grind), a2.le (by grind)⟩
theorem eP_tm (n K : Nat) {x X t : Rat} (hx : Ab x X) (hX : X ≤ 1 / 2) (ht : ∀ x, Ab x X → Ab (tm K x) t) :
  Ab (tC (K + 1) x - (eP n x).1) ((K : Rat) * hn n + t) ∧ Ab (tS (K + 1) x - (eP n x).2) ((K : Rat) * hn n + t):=by
 have h2:=two_hn n
 have hp:=hn_pos n
 have hX0:=hx.nn
 have hK:=nat_nn K
 have t0:=(ht x hx).nn
 have hh : Ab (x * hn n) (X * hn n):=hx.mul (show Ab (hn n) (hn n) by unfold Ab; grind)
 have e1 : ((2 ^ n : Nat) : Rat) * (x * hn n) = x:=by rw [show ((2 ^ n : Nat) : Rat) * (x * hn n) = ((2 ^ n : Nat) : Rat) * hn n * x by grind, h2]; grind
 have e2 : ((2 ^ n : Nat) : Rat) * (X * hn n) = X:=by rw [show ((2 ^ n : Nat) : Rat) * (X * hn n) = ((2 ^ n : Nat) : Rat) * hn n * X by grind, h2]; grind
 have m:=tCS_cx K hh ht hX (2 ^ n) (by rw [e2]; exact Rat.le_refl)
 rw [e1, e2, cx_cq] at m
 have b : 2 * X * ((K : Rat) * (X * hn n) + t) ≤ (K : Rat) * hn n + t:=by
  have q0:=Rat.mul_nonneg hK (Rat.le_of_lt hp)
  have q1:=Rat.mul_le_mul_of_nonneg_right (show X ≤ 1 by grind) q0
  have q2:=Rat.mul_nonneg q0 hX0
  have q3:=Rat.mul_le_mul_of_nonneg_right (show 2 * X ≤ 1 by grind) (show 0 ≤ (K : Rat) * (X * hn n) + t by grind)
  grind
 exact ⟨m.1.le b, m.2.le b⟩
def lvl : Nat:=9000
def cosQ (x : Rat) : Rat:=(eP lvl x).1
def sinQ (x : Rat) : Rat:=(eP lvl x).2
def eta : Rat:=hn 3000
theorem eta_pos : 0 < eta:=hn_pos _
def bigQ : Rat:=((2 ^ 64 : Nat) : Rat)
theorem big_hn : bigQ * hn 64 = 1:=two_hn 64
theorem sq_lvl {x : Rat} (h : Ab x (2 * bigQ)) : x * x * hn lvl ≤ hn 8000:=by
 have a:=h.sq
 have b:=Rat.mul_le_mul_of_nonneg_right a (Rat.le_of_lt (hn_pos lvl))
 have e : lvl = 64 + 64 + 1 + 1 + 8870:=rfl
 have f : hn lvl = hn 64 * hn 64 / 2 / 2 * hn 8870:=by rw [e, hn_add, hn_succ, hn_succ, hn_add]
 rw [f] at b ⊢
 have g:=big_hn
 have k : 2 * bigQ * (2 * bigQ) * (hn 64 * hn 64 / 2 / 2 * hn 8870) = bigQ * hn 64 * (bigQ * hn 64) * hn 8870:=by grind
 rw [k, g] at b
 have:=hn_le (show 8000 ≤ 8870 by omega)
 grind
theorem eta_le_small : hn 8000 ≤ 1 / 8:=by
 have a:=hn_le (show 3 ≤ 8000 by omega)
 have b : hn 3 = 1 / 8:=by decide +kernel
 grind
theorem eta_small : eta ≤ 1 / 1000000:=by
 have a:=hn_le (show 20 ≤ 3000 by omega)
 have b : hn 20 ≤ 1 / 1000000:=by decide +kernel
 unfold eta
 grind
theorem dbl_big {x : Rat} (h : Ab x bigQ) : Ab x (2 * bigQ):=h.le (by have:=h.nn; grind)
theorem nrm {x : Rat} (h : Ab x (2 * bigQ)) : 1 ≤ cosQ x * cosQ x + sinQ x * sinQ x ∧ cosQ x * cosQ x + sinQ x * sinQ x ≤ 1 + eta:=by
 have a:=sq_lvl h
 have b:=eta_le_small
 have c:=eP_nq (n:=lvl) (x:=x) (by grind)
 have d : 2 * hn 8000 ≤ eta:=by
  have:=hn_le (show 3001 ≤ 8000 by omega)
  have e : hn 3001 = eta / 2:=hn_succ 3000
  grind
 have e:=c.1
 have f:=c.2
 unfold nq at e f
 unfold cosQ sinQ
 grind
theorem co_ab {x : Rat} (h : Ab x (2 * bigQ)) : Ab (cosQ x) (1 + eta):=by
 have a:=nrm h
 have:=rsq_nn (sinQ x)
 have e:=eta_pos
 have f:=Rat.mul_nonneg (Rat.le_of_lt e) (Rat.le_of_lt e)
 exact abs_of_sq (by grind) (by grind)
theorem si_ab {x : Rat} (h : Ab x (2 * bigQ)) : Ab (sinQ x) (1 + eta):=by
 have a:=nrm h
 have:=rsq_nn (cosQ x)
 have e:=eta_pos
 have f:=Rat.mul_nonneg (Rat.le_of_lt e) (Rat.le_of_lt e)
 exact abs_of_sq (by grind) (by grind)
theorem cs_add {x y : Rat} (hx : Ab x bigQ) (hy : Ab y bigQ) : Ab (cosQ x * cosQ y - sinQ x * sinQ y - cosQ (x + y)) eta ∧ Ab (cosQ x * sinQ y + sinQ x * cosQ y - sinQ (x + y)) eta:=by
 have a:=sq_lvl (dbl_big hx)
 have b:=sq_lvl (dbl_big hy)
 have c:=sq_lvl (x:=x + y) ((hx.add hy).le (by grind))
 have d:=eta_le_small
 have m:=eP_add (n:=lvl) (x:=x) (y:=y) (by grind) (by grind) (by grind)
 have q : x * y * (x * y) * hn lvl ≤ eta * eta:=by
  have e1 : lvl = 1000 + 8000:=rfl
  have s1:=(dbl_big hx).sq
  have s2 : x * x * (y * y) ≤ 2 * bigQ * (2 * bigQ) * (2 * bigQ * (2 * bigQ)):=rmul_le s1 (dbl_big hy).sq (rsq_nn y) (by
   have:=hx.nn
   exact Rat.mul_nonneg (by grind) (by grind))
  have k1 : hn 128 = hn 64 * hn 64:=hn_add 64 64
  have k2 : hn 256 = hn 128 * hn 128:=hn_add 128 128
  have k3 : hn 257 = hn 256 / 2:=hn_succ 256
  have k4 : hn 258 = hn 257 / 2:=hn_succ 257
  have k5 : hn 259 = hn 258 / 2:=hn_succ 258
  have k6 : hn 260 = hn 259 / 2:=hn_succ 259
  have k7 : hn 6000 = hn 3000 * hn 3000:=hn_add 3000 3000
  have k8 : hn 6260 = hn 260 * hn 6000:=hn_add 260 6000
  have k9 : hn lvl = hn 6260 * hn 2740:=hn_add 6260 2740
  have f : hn lvl = hn 64 * hn 64 * (hn 64 * hn 64) / 2 / 2 / 2 / 2 * (hn 3000 * hn 3000) * hn 2740:=by
   rw [k9, k8, k7, k6, k5, k4, k3, k2, k1]
  have g:=big_hn
  have p:=Rat.mul_le_mul_of_nonneg_right s2 (Rat.le_of_lt (hn_pos lvl))
  have z : 2 * bigQ * (2 * bigQ) * (2 * bigQ * (2 * bigQ)) * hn lvl = bigQ * hn 64 * (bigQ * hn 64) * (bigQ * hn 64 * (bigQ * hn 64)) * (hn 3000 * hn 3000) * hn 2740:=by rw [f]; grind
  rw [z, g] at p
  have w:=hn_le (show 0 ≤ 2740 by omega)
  have w0 : hn 0 = 1:=rfl
  have w1:=Rat.mul_le_mul_of_nonneg_left (show hn 2740 ≤ 1 by grind) (rsq_nn (hn 3000))
  unfold eta
  grind
 exact of_ds (Rat.le_of_lt eta_pos) (Rat.le_trans m q)
theorem co_neg (x : Rat) : cosQ (-x) = cosQ x:=(eP_neg lvl x).1
theorem si_neg (x : Rat) : sinQ (-x) = -sinQ x:=(eP_neg lvl x).2
theorem quarter_rp (k : Nat) : rp (1 / 4) k = hn k * hn k:=by
 induction k with
 | zero => show (1 : Rat) = 1 * 1; grind
 | succ k ih => rw [hn_succ]; show rp (1 / 4) k * (1 / 4) = _; rw [ih]; grind
theorem rp_mono (k : Nat) {a b : Rat} (h0 : 0 ≤ a) (h : a ≤ b) : rp a k ≤ rp b k ∧ 0 ≤ rp a k:=by
 induction k with
 | zero => show (1 : Rat) ≤ 1 ∧ (0 : Rat) ≤ 1; grind
 | succ k ih => exact ⟨rmul_le ih.1 h h0 (by grind), Rat.mul_nonneg ih.2 h0⟩
theorem ser_all {x : Rat} (hx : Ab x (1 / 4)) : Ab (tC 2001 x - cosQ x) (eta / 2) ∧ Ab (tS 2001 x - sinQ x) (eta / 2):=by
 have m:=eP_tm lvl 2000 (t:=hn 4000) hx (by grind) (fun y hy => by
  have:=tm_ab hy 2000
  rw [quarter_rp] at this
  have e : hn 4000 = hn 2000 * hn 2000:=hn_add 2000 2000
  rwa [e])
 have b : ((2000 : Nat) : Rat) * hn lvl + hn 4000 ≤ eta / 2:=by
  have e1 : hn lvl = hn 11 * hn 8989:=hn_add 11 8989
  have e2 : ((2000 : Nat) : Rat) * hn 11 ≤ 1:=by decide +kernel
  have e3:=Rat.mul_le_mul_of_nonneg_right e2 (Rat.le_of_lt (hn_pos 8989))
  have e4:=hn_le (show 3002 ≤ 8989 by omega)
  have e5:=hn_le (show 3002 ≤ 4000 by omega)
  have e6 : hn 3002 = eta / 2 / 2:=by unfold eta; rw [show 3002 = 3000 + 1 + 1 from rfl, hn_succ, hn_succ]
  rw [e1]
  grind
 exact ⟨m.1.le b, m.2.le b⟩
theorem ser_tail {x b : Rat} (hx : Ab x (1 / 4)) (K j : Nat) (hb : Ab (tm K x) b) : Ab (tC (K + j) x - tC K x) (4 / 3 * b - 4 / 3 * b * rp (1 / 4) j) ∧ Ab (tS (K + j) x - tS K x) (4 / 3 * b - 4 / 3 * b * rp (1 / 4) j):=by
  have term : ∀ j, Ab (tm (K + j) x) (b * rp (1 / 4) j):=fun j => by
    induction j with
    | zero => show Ab (tm K x) (b * 1); rwa [show b * 1 = b by grind]
    | succ j ih =>
      have h0:=nat_nn (K + j)
      have:=(ih.mul hx).divs (c:=((K + j : Nat) : Rat) + 1) (by grind)
      show Ab (tm (K + j) x * x / (((K + j : Nat) : Rat) + 1)) (b * (rp (1 / 4) j * (1 / 4)))
      rwa [show b * (rp (1 / 4) j * (1 / 4)) = b * rp (1 / 4) j * (1 / 4) by grind]
  have b0:=hb.nn
  induction j with
  | zero =>
    show Ab (tC K x - tC K x) (4 / 3 * b - 4 / 3 * b * 1) ∧ Ab (tS K x - tS K x) (4 / 3 * b - 4 / 3 * b * 1)
    unfold Ab
    grind
  | succ j ih =>
    have o:=sc_one (K + j)
    have t1:=ih.1.add ((show Ab (sc (K + j)) 1 by unfold Ab; grind).mul (term j))
    have t2:=ih.2.add ((show Ab (ss (K + j)) 1 by unfold Ab; grind).mul (term j))
    have e : rp (1 / 4) (j + 1) = rp (1 / 4) j * (1 / 4):=rfl
    have r:=(rp_mono j (show (0 : Rat) ≤ 1 / 4 by grind) Rat.le_refl).2
    have s:=Rat.mul_nonneg b0 r
    have u1 : tC (K + (j + 1)) x - tC K x = tC (K + j) x - tC K x + sc (K + j) * tm (K + j) x:=by
      rw [show tC (K + (j + 1)) x = tC (K + j) x + sc (K + j) * tm (K + j) x from rfl]; grind
    have u2 : tS (K + (j + 1)) x - tS K x = tS (K + j) x - tS K x + ss (K + j) * tm (K + j) x:=by
      rw [show tS (K + (j + 1)) x = tS (K + j) x + ss (K + j) * tm (K + j) x from rfl]; grind
    rw [u1, u2, e]
    exact ⟨t1.le (by grind), t2.le (by grind)⟩
theorem ser {x b : Rat} (hx : Ab x (1 / 4)) {K : Nat} (hK : K ≤ 2001) (hb : Ab (tm K x) b) : Ab (tC K x - cosQ x) (4 / 3 * b + eta) ∧ Ab (tS K x - sinQ x) (4 / 3 * b + eta):=by
 have t:=ser_tail hx K (2001 - K) hb
 rw [show K + (2001 - K) = 2001 by omega] at t
 have a:=ser_all hx
 have e:=eta_pos
 have r:=(rp_mono (2001 - K) (show (0 : Rat) ≤ 1 / 4 by grind) Rat.le_refl).2
 have s:=Rat.mul_nonneg hb.nn r
 have p:=a.1.sub t.1
 have q:=a.2.sub t.2
 rw [show tC 2001 x - cosQ x - (tC 2001 x - tC K x) = tC K x - cosQ x by grind] at p
 rw [show tS 2001 x - sinQ x - (tS 2001 x - tS K x) = tS K x - sinQ x by grind] at q
 exact ⟨p.le (by grind), q.le (by grind)⟩
theorem si_small {u U : Rat} (hu : Ab u U) (hU : U ≤ 1 / 4) : Ab (1 - cosQ u) (U / 3 + eta) ∧ Ab (sinQ u) (4 / 3 * U + eta):=by
 have h0:=hu.nn
 have e:=eta_pos
 have q : tm 2 u = u * u / 2:=by
  have a:=tm_mul 1 u
  have b:=tm_mul 0 u
  rw [show tm 0 u = 1 from rfl, show ((0 : Nat) : Rat) = 0 from rfl] at b
  rw [show ((1 : Nat) : Rat) = 1 from rfl] at a
  grind
 have p:=ser (hu.le hU) (show 2 ≤ 2001 by omega) (b:=U / 8) (by
  rw [q]
  have s:=hu.mul hu
  have t:=Rat.mul_le_mul_of_nonneg_right hU h0
  unfold Ab at *
  constructor <;> grind)
 have c2 : tC 2 u = 1:=by show (0 : Rat) + 1 * 1 + 0 * tm 1 u = 1; grind
 have s2 : tS 2 u = u:=by
  have b:=tm_mul 0 u
  rw [show tm 0 u = 1 from rfl, show ((0 : Nat) : Rat) = 0 from rfl] at b
  show (0 : Rat) + 0 * 1 + 1 * tm 1 u = u
  grind
 rw [c2, s2] at p
 refine ⟨p.1.le (by grind), ?_⟩
 have:=hu.sub p.2
 rw [show u - (u - sinQ u) = sinQ u by grind] at this
 exact this.le (by grind)
theorem lip {y u U : Rat} (hy : Ab y bigQ) (hu : Ab u U) (hU : U ≤ 1 / 4) : Ab (cosQ (y + u) - cosQ y) (2 * U + 5 * eta) ∧ Ab (sinQ (y + u) - sinQ y) (2 * U + 5 * eta):=by
 have hb : (1 : Rat) ≤ bigQ:=by
  have g:=big_hn
  have h1:=hn_le (show 0 ≤ 64 by omega)
  have h2 : hn 0 = 1:=rfl
  have h3:=hn_pos 64
  refine le_of_mul h3 ?_
  grind
 have h0:=hu.nn
 have e:=eta_pos
 have e1:=eta_small
 have a:=cs_add hy (hu.le (c:=bigQ) (by grind))
 have s:=si_small hu hU
 have c:=co_ab (dbl_big hy)
 have d:=si_ab (dbl_big hy)
 have m1:=(c.mul s.1).neg
 have m2:=d.mul s.2
 have m3:=(d.mul s.1).neg
 have m4:=c.mul s.2
 have r1:=(m1.sub m2).sub a.1
 have r2:=(m3.add m4).sub a.2
 rw [show -(cosQ y * (1 - cosQ u)) - sinQ y * sinQ u - (cosQ y * cosQ u - sinQ y * sinQ u - cosQ (y + u)) = cosQ (y + u) - cosQ y by grind] at r1
 rw [show -(sinQ y * (1 - cosQ u)) + cosQ y * sinQ u - (cosQ y * sinQ u + sinQ y * cosQ u - sinQ (y + u)) = sinQ (y + u) - sinQ y by grind] at r2
 have f1:=Rat.mul_le_mul_of_nonneg_left e1 (Rat.le_of_lt e)
 have f2:=Rat.mul_le_mul_of_nonneg_left hU (Rat.le_of_lt e)
 exact ⟨r1.le (by grind), r2.le (by grind)⟩
theorem dbl_cs {x : Rat} (hx : Ab x bigQ) : Ab (1 - 2 * (sinQ x * sinQ x) - cosQ (2 * x)) (2 * eta) ∧ Ab (2 * (sinQ x * cosQ x) - sinQ (2 * x)) eta:=by
 have a:=cs_add hx hx
 have n:=nrm (dbl_big hx)
 rw [show x + x = 2 * x by grind] at a
 generalize cosQ x = c at *
 generalize sinQ x = s at *
 generalize cosQ (2 * x) = C at *
 generalize sinQ (2 * x) = S at *
 generalize eta = e at *
 unfold Ab at *
 constructor
 ·constructor <;> grind
 ·constructor <;> grind
theorem tri_si {x : Rat} (hx : Ab (2 * x) bigQ) : Ab (3 * sinQ x - 4 * (sinQ x * sinQ x * sinQ x) - sinQ (3 * x)) (10 * eta):=by
 have e:=eta_pos
 have e1:=eta_small
 have hx1 : Ab x bigQ:=by unfold Ab at *; constructor <;> grind
 have a:=cs_add hx hx1
 have n:=nrm (dbl_big hx1)
 have d:=dbl_cs hx1
 have c:=co_ab (dbl_big hx1)
 have s:=si_ab (dbl_big hx1)
 rw [show 2 * x + x = 3 * x by grind] at a
 have m1:=d.1.mul s
 have m2:=d.2.mul c
 have m3:=(show Ab (1 - (cosQ x * cosQ x + sinQ x * sinQ x)) eta by unfold Ab; grind).mul ((show Ab 2 2 by unfold Ab; grind).mul s)
 have t:=((a.2.add m1).add m2).add m3
 rw [show cosQ (2 * x) * sinQ x + sinQ (2 * x) * cosQ x - sinQ (3 * x) + (1 - 2 * (sinQ x * sinQ x) - cosQ (2 * x)) * sinQ x + (2 * (sinQ x * cosQ x) - sinQ (2 * x)) * cosQ x + (1 - (cosQ x * cosQ x + sinQ x * sinQ x)) * (2 * sinQ x) = 3 * sinQ x - 4 * (sinQ x * sinQ x * sinQ x) - sinQ (3 * x) by grind] at t
 have f1:=Rat.mul_le_mul_of_nonneg_left e1 (Rat.le_of_lt e)
 exact t.le (by grind)
def pt1 (c : Int) (p : Nat → Int × Int) (v : Nat) : Option Int:=match smP p 600 0 (2 ^ v) 0 with
 | none => none
 | some a => some (a * c)
def add2 : Option Int → Option Int → Option Int
 | some a, some b => some (a + b)
 | _, _ => none
def piT (v : Nat) : Option Int:=add2 (pt1 16 (tnP 5 1) v) (pt1 (-4) (tnP 239 1) v)
def cPi : Int:=10283659886096346733263384151503756861634764969113587550194014914087843208563500712840304045958917565049748851786214229816233622223046670298426214405232
def inP (c : Int) (k : Nat) : Option Int → Bool
 | none => false
 | some T => decide (loC T * 2 ^ (500 - k) ≤ c) && decide (c ≤ hiC T * 2 ^ (500 - k))
theorem pi_all : (List.range 400).all (fun k => inP cPi k (piT (k + 32))) = true:=by decide +kernel
def piQ : Rat:=(cPi : Rat) * hn 500
def hP : Rat:=piQ / 2
def yQ : Rat:=mkRat cPi (2 ^ 504)
def dblQ (z : Rat × Rat) : Rat × Rat:=(1 - 2 * (z.2 * z.2), 2 * (z.2 * z.1))
def q0 : Rat × Rat:=(tC 70 yQ, tS 70 yQ)
def Ab2 (z : Rat × Rat) : Bool:=decide (-2 ≤ z.1) && decide (z.1 ≤ 2) && decide (-2 ≤ z.2) && decide (z.2 ≤ 2)
theorem q0_b : (Ab2 q0 && Ab2 (dblQ q0) && Ab2 (dblQ (dblQ q0)) && decide (-(1 / 4) ≤ yQ) && decide (yQ ≤ 1 / 4) && decide (-(hn 471) ≤ tm 70 yQ) && decide (tm 70 yQ ≤ hn 471)) = true:=by decide +kernel
theorem q3_b : (decide (-(hn 450) ≤ (dblQ (dblQ (dblQ q0))).1) && decide ((dblQ (dblQ (dblQ q0))).1 ≤ hn 450) && decide (-(hn 450) ≤ (dblQ (dblQ (dblQ q0))).2 - 1) && decide ((dblQ (dblQ (dblQ q0))).2 - 1 ≤ hn 450)) = true:=by decide +kernel
theorem yQ_b : (8 : Rat) * yQ = hP:=by unfold hP piQ yQ; decide +kernel
theorem hP_ab : Ab hP 2 ∧ Ab (hP - 8 / 5) (1 / 20):=by
 have : (decide (-2 ≤ hP) && decide (hP ≤ 2) && decide (-(1 / 20) ≤ hP - 8 / 5) && decide (hP - 8 / 5 ≤ 1 / 20)) = true:=by unfold hP piQ; decide +kernel
 simp only [Bool.and_eq_true, decide_eq_true_eq] at this
 exact ⟨⟨this.1.1.1, this.1.1.2⟩, this.1.2, this.2⟩
theorem dbl_err {c s C S e t c2 s2 : Rat} (h1 : Ab (c - C) e) (h2 : Ab (s - S) e) (he : e ≤ 1) (ht : t ≤ e) (hC : Ab C 2) (hS : Ab S 2) (g1 : Ab (1 - 2 * (s * s) - c2) (2 * t)) (g2 : Ab (2 * (s * c) - s2) t) :
  Ab (c2 - (1 - 2 * (S * S))) (12 * e) ∧ Ab (s2 - 2 * (S * C)) (12 * e):=by
 have e0:=h1.nn
 have hs : Ab (s + S) (2 + 2 + 1):=by
  have:=(hS.add hS).add h2
  rw [show S + S + (s - S) = s + S by grind] at this
  exact this.le (by grind)
 have hs3 : Ab c 3:=by
  have:=hC.add h1
  rw [show C + (c - C) = c by grind] at this
  exact this.le (by grind)
 have a:=(h2.mul hs).add (h2.mul hs)
 have b:=h2.mul hs3
 have d:=hS.mul h1
 have b2:=b.add b
 have d2:=d.add d
 have r1:=(a.neg).sub g1
 have r2:=(b2.add d2).sub g2
 rw [show -((s - S) * (s + S) + (s - S) * (s + S)) - (1 - 2 * (s * s) - c2) = c2 - (1 - 2 * (S * S)) by grind] at r1
 rw [show (s - S) * c + (s - S) * c + (S * (c - C) + S * (c - C)) - (2 * (s * c) - s2) = s2 - 2 * (S * C) by grind] at r2
 exact ⟨r1.le (by grind), r2.le (by grind)⟩
theorem ab2 {z : Rat × Rat} (h : Ab2 z = true) : Ab z.1 2 ∧ Ab z.2 2:=by
 unfold Ab2 at h
 simp only [Bool.and_eq_true, decide_eq_true_eq] at h
 exact ⟨⟨h.1.1.1, h.1.1.2⟩, h.1.2, h.2⟩
theorem two_big : (4 : Rat) ≤ bigQ:=by
 have g:=big_hn
 have h1:=hn_le (show 2 ≤ 64 by omega)
 have h2 : 4 * hn 2 = 1:=by decide +kernel
 have h3:=hn_pos 64
 refine le_of_mul h3 ?_
 rw [g]
 grind
theorem quarter : Ab (cosQ hP) (hn 449) ∧ Ab (sinQ hP - 1) (hn 449):=by
 have k:=q0_b
 have k3:=q3_b
 simp only [Bool.and_eq_true, decide_eq_true_eq] at k k3
 obtain ⟨⟨⟨⟨⟨⟨a0, a1⟩, a2⟩, y1⟩, y2⟩, t1⟩, t2⟩:=k
 have B0:=ab2 a0
 have B1:=ab2 a1
 have B2:=ab2 a2
 have s:=ser (x:=yQ) ⟨y1, y2⟩ (show 70 ≤ 2001 by omega) (b:=hn 471) ⟨t1, t2⟩
 have e471 : hn 470 = hn 471 * 2:=by have : hn 471 = hn 470 / 2:=hn_succ 470; grind
 have ee : eta ≤ hn 480:=hn_le (by omega)
 have e480 : hn 480 ≤ hn 474:=hn_le (by omega)
 have e474 : hn 471 = hn 474 * 8:=by
  have h1 : hn 474 = hn 473 / 2:=hn_succ 473
  have h2 : hn 473 = hn 472 / 2:=hn_succ 472
  have h3 : hn 472 = hn 471 / 2:=hn_succ 471
  grind
 have p474:=hn_pos 474
 have big:=two_big
 have small : hn 470 ≤ 1 / 1728:=by
  have h1:=hn_le (show 11 ≤ 470 by omega)
  have h2 : hn 11 ≤ 1 / 1728:=by decide +kernel
  grind
 have s1 : Ab (cosQ yQ - q0.1) (hn 470) ∧ Ab (sinQ yQ - q0.2) (hn 470):=by
  have a:=s.1.neg
  have b:=s.2.neg
  rw [show -(tC 70 yQ - cosQ yQ) = cosQ yQ - q0.1 by unfold q0; grind] at a
  rw [show -(tS 70 yQ - sinQ yQ) = sinQ yQ - q0.2 by unfold q0; grind] at b
  exact ⟨a.le (by grind), b.le (by grind)⟩
 have ab : Ab yQ (1 / 4):=⟨y1, y2⟩
 have w2 : Ab (2 * yQ) (1 / 2):=by unfold Ab at *; grind
 have w4 : Ab (2 * (2 * yQ)) 1:=by unfold Ab at *; grind
 have d1:=dbl_cs (x:=yQ) (ab.le (by grind))
 have d2:=dbl_cs (x:=2 * yQ) (w2.le (by grind))
 have d3:=dbl_cs (x:=2 * (2 * yQ)) (w4.le (by grind))
 have f1:=dbl_err s1.1 s1.2 (by grind) (t:=eta) (by grind) B0.1 B0.2 d1.1 d1.2
 have f2:=dbl_err (e:=12 * hn 470) (C:=(dblQ q0).1) (S:=(dblQ q0).2) f1.1 f1.2 (by grind) (t:=eta) (by grind) B1.1 B1.2 d2.1 d2.2
 have f3:=dbl_err (e:=12 * (12 * hn 470)) (C:=(dblQ (dblQ q0)).1) (S:=(dblQ (dblQ q0)).2) f2.1 f2.2 (by grind) (t:=eta) (by grind) B2.1 B2.2 d3.1 d3.2
 rw [show 2 * (2 * (2 * yQ)) = hP by rw [← yQ_b]; grind] at f3
 have g1 : Ab (dblQ (dblQ (dblQ q0))).1 (hn 450):=⟨k3.1.1.1, k3.1.1.2⟩
 have g2 : Ab ((dblQ (dblQ (dblQ q0))).2 - 1) (hn 450):=⟨k3.1.2, k3.2⟩
 have z : 12 * (12 * (12 * hn 470)) ≤ hn 450:=by
  have h1 : hn 470 = hn 450 * hn 20:=hn_add 450 20
  have h2 : 1728 * hn 20 ≤ 1:=by decide +kernel
  have h3:=Rat.mul_le_mul_of_nonneg_left h2 (Rat.le_of_lt (hn_pos 450))
  grind
 have hh : hn 449 = hn 450 * 2:=by have : hn 450 = hn 449 / 2:=hn_succ 449; grind
 have r1:=f3.1.add g1
 have r2:=f3.2.add g2
 rw [show cosQ hP - (1 - 2 * ((dblQ (dblQ q0)).2 * (dblQ (dblQ q0)).2)) + (dblQ (dblQ (dblQ q0))).1 = cosQ hP by rw [show (dblQ (dblQ (dblQ q0))).1 = 1 - 2 * ((dblQ (dblQ q0)).2 * (dblQ (dblQ q0)).2) from rfl]; grind] at r1
 rw [show sinQ hP - 2 * ((dblQ (dblQ q0)).2 * (dblQ (dblQ q0)).1) + ((dblQ (dblQ (dblQ q0))).2 - 1) = sinQ hP - 1 by rw [show (dblQ (dblQ (dblQ q0))).2 = 2 * ((dblQ (dblQ q0)).2 * (dblQ (dblQ q0)).1) from rfl]; grind] at r2
 exact ⟨r1.le (by grind), r2.le (by grind)⟩
theorem turn_one {x : Rat} (hx : Ab x bigQ) : Ab (cosQ (x + hP) + sinQ x) (hn 446) ∧ Ab (sinQ (x + hP) - cosQ x) (hn 446) ∧ Ab (cosQ (x + -hP) - sinQ x) (hn 446) ∧ Ab (sinQ (x + -hP) + cosQ x) (hn 446):=by
 have big:=two_big
 have q:=quarter
 have p : Ab hP bigQ:=hP_ab.1.le (by grind)
 have a:=cs_add hx p
 have b:=cs_add hx p.neg
 rw [co_neg, si_neg] at b
 have c:=co_ab (dbl_big hx)
 have s:=si_ab (dbl_big hx)
 have es:=eta_small
 have e0:=eta_pos
 have e1 : eta ≤ hn 449:=hn_le (by omega)
 have h449:=hn_pos 449
 have h8 : hn 446 = hn 449 * 8:=by
  have h1 : hn 449 = hn 448 / 2:=hn_succ 448
  have h2 : hn 448 = hn 447 / 2:=hn_succ 447
  have h3 : hn 447 = hn 446 / 2:=hn_succ 446
  grind
 have m1:=(c.mul q.1).le (c:=2 * hn 449) (by
  have:=Rat.mul_le_mul_of_nonneg_right es (Rat.le_of_lt h449)
  grind)
 have m2:=(s.mul q.2).le (c:=2 * hn 449) (by
  have:=Rat.mul_le_mul_of_nonneg_right es (Rat.le_of_lt h449)
  grind)
 have m3:=(s.mul q.1).le (c:=2 * hn 449) (by
  have:=Rat.mul_le_mul_of_nonneg_right es (Rat.le_of_lt h449)
  grind)
 have m4:=(c.mul q.2).le (c:=2 * hn 449) (by
  have:=Rat.mul_le_mul_of_nonneg_right es (Rat.le_of_lt h449)
  grind)
 generalize cosQ x = cx at *
 generalize sinQ x = sx at *
 generalize cosQ (x + hP) = c1 at *
 generalize sinQ (x + hP) = s1 at *
 generalize cosQ (x + -hP) = c2 at *
 generalize sinQ (x + -hP) = s2 at *
 generalize cosQ hP = cp at *
 generalize sinQ hP = sp at *
 generalize hn 449 = h at *
 generalize hn 446 = g at *
 generalize eta = e at *
 unfold Ab at *
 refine ⟨?_, ?_, ?_, ?_⟩
 ·constructor <;> grind
 ·constructor <;> grind
 ·constructor <;> grind
 ·constructor <;> grind
def rtc (k : Int) (c s : Rat) : Rat:=if k % 4 = 0 then c else if k % 4 = 1 then -s else if k % 4 = 2 then -c else s
def rts (k : Int) (c s : Rat) : Rat:=if k % 4 = 0 then s else if k % 4 = 1 then c else if k % 4 = 2 then -s else -c
theorem rt_up (k : Int) (c s : Rat) : rtc (k + 1) c s = -rts k c s ∧ rts (k + 1) c s = rtc k c s:=by
 unfold rtc rts
 obtain h | h | h | h : k % 4 = 0 ∨ k % 4 = 1 ∨ k % 4 = 2 ∨ k % 4 = 3:=by omega
 ·rw [show (k + 1) % 4 = 1 by omega, h]; simp
 ·rw [show (k + 1) % 4 = 2 by omega, h]; simp
 ·rw [show (k + 1) % 4 = 3 by omega, h]; simp
 ·rw [show (k + 1) % 4 = 0 by omega, h]; simp
theorem rt_down (k : Int) (c s : Rat) : rtc (k - 1) c s = rts k c s ∧ rts (k - 1) c s = -rtc k c s:=by
 have:=rt_up (k - 1) c s
 rw [show k - 1 + 1 = k by omega] at this
 rw [this.1, this.2, Rat.neg_neg]
 exact ⟨rfl, rfl⟩
theorem turn_nat (n : Nat) {x : Rat} (hx : Ab (x : Rat) (bigQ - 2 * (n : Rat))) :
    (Ab (cosQ (x + (n : Rat) * hP) - rtc (n : Int) (cosQ x) (sinQ x)) ((n : Rat) * hn 446) ∧ Ab (sinQ (x + (n : Rat) * hP) - rts (n : Int) (cosQ x) (sinQ x)) ((n : Rat) * hn 446)) ∧
    (Ab (cosQ (x + -((n : Rat) * hP)) - rtc (-(n : Int)) (cosQ x) (sinQ x)) ((n : Rat) * hn 446) ∧ Ab (sinQ (x + -((n : Rat) * hP)) - rts (-(n : Int)) (cosQ x) (sinQ x)) ((n : Rat) * hn 446)):=by
  induction n with
  | zero =>
    rw [show ((0 : Nat) : Rat) = 0 from rfl, show ((0 : Nat) : Int) = 0 from rfl, show (-(0 : Int)) = 0 from rfl]
    have e : ∀ c s, rtc 0 c s = c ∧ rts 0 c s = s:=fun c s => ⟨rfl, rfl⟩
    rw [show x + 0 * hP = x by grind, show x + -(0 * hP) = x by grind, (e _ _).1, (e _ _).2]
    unfold Ab
    grind
  | succ n ih =>
    have hn0:=nat_nn n
    have e : ((n + 1 : Nat) : Rat) = (n : Rat) + 1:=by push_cast; rfl
    rw [e] at hx ⊢
    have i:=ih (hx.le (by grind))
    have p:=hP_ab.1
    have np:=(show Ab (n : Rat) (n : Rat) by unfold Ab; grind).mul p
    have t1:=turn_one (x:=x + (n : Rat) * hP) ((hx.add np).le (by grind))
    have t2:=turn_one (x:=x + -((n : Rat) * hP)) ((hx.add np.neg).le (by grind))
    have u:=rt_up (n : Int) (cosQ x) (sinQ x)
    have d:=rt_down (-(n : Int)) (cosQ x) (sinQ x)
    rw [show x + ((n : Rat) + 1) * hP = x + (n : Rat) * hP + hP by grind, show x + -(((n : Rat) + 1) * hP) = x + -((n : Rat) * hP) + -hP by grind, show ((n + 1 : Nat) : Int) = (n : Int) + 1 by omega, show (-((n : Int) + 1)) = -(n : Int) - 1 by omega, u.1, u.2, d.1, d.2]
    generalize cosQ (x + (n : Rat) * hP + hP) = z1 at *
    generalize sinQ (x + (n : Rat) * hP + hP) = z2 at *
    generalize cosQ (x + -((n : Rat) * hP) + -hP) = z3 at *
    generalize sinQ (x + -((n : Rat) * hP) + -hP) = z4 at *
    generalize cosQ (x + (n : Rat) * hP) = y1 at *
    generalize sinQ (x + (n : Rat) * hP) = y2 at *
    generalize cosQ (x + -((n : Rat) * hP)) = y3 at *
    generalize sinQ (x + -((n : Rat) * hP)) = y4 at *
    generalize rtc (n : Int) (cosQ x) (sinQ x) = r1 at *
    generalize rts (n : Int) (cosQ x) (sinQ x) = r2 at *
    generalize rtc (-(n : Int)) (cosQ x) (sinQ x) = r3 at *
    generalize rts (-(n : Int)) (cosQ x) (sinQ x) = r4 at *
    generalize hn 446 = h at *
    obtain ⟨⟨i1, i2⟩, i3, i4⟩:=i
    obtain ⟨a1, a2, _, _⟩:=t1
    obtain ⟨_, _, a3, a4⟩:=t2
    rw [show ((n : Rat) + 1) * h = (n : Rat) * h + h by grind]
    generalize (n : Rat) * h = nh at *
    clear ih hx hn0 e p np u d
    unfold Ab at *
    refine ⟨⟨?_, ?_⟩, ?_, ?_⟩
    · constructor <;> grind
    · constructor <;> grind
    · constructor <;> grind
    · constructor <;> grind
theorem turn_int {k : Int} {r : Rat} (hk : -(2 ^ 34) ≤ k ∧ k ≤ 2 ^ 34) (hr : Ab r 2) :
  Ab (cosQ (r + (k : Rat) * hP) - rtc k (cosQ r) (sinQ r)) (hn 400) ∧ Ab (sinQ (r + (k : Rat) * hP) - rts k (cosQ r) (sinQ r)) (hn 400):=by
 have hb : bigQ = 18446744073709551616:=by decide +kernel
 obtain ⟨n, hn'⟩ : ∃ n : Nat, n = k.natAbs:=⟨_, rfl⟩
 have hn2 : n ≤ 2 ^ 34:=by omega
 have hq : (n : Rat) ≤ 17179869184:=by exact_mod_cast (show n ≤ 17179869184 by omega)
 have t:=turn_nat n (x:=r) (hr.le (by rw [hb]; grind))
 have b : (n : Rat) * hn 446 ≤ hn 400:=by
  have h1 : hn 446 = hn 400 * hn 46:=hn_add 400 46
  have h2 : (17179869184 : Rat) * hn 46 ≤ 1:=by decide +kernel
  have h3:=Rat.mul_le_mul_of_nonneg_right hq (Rat.le_of_lt (hn_pos 46))
  have h4:=Rat.mul_le_mul_of_nonneg_left (Rat.le_trans h3 h2) (Rat.le_of_lt (hn_pos 400))
  rw [h1]
  grind
 rcases (by omega : k = (n : Int) ∨ k = -(n : Int)) with hk | hk
 ·rw [hk, Rat.intCast_natCast]
  exact ⟨t.1.1.le b, t.1.2.le b⟩
 ·rw [hk, Rat.intCast_neg, Rat.intCast_natCast, show -(n : Rat) * hP = -((n : Rat) * hP) by grind]
  exact ⟨t.2.1.le b, t.2.2.le b⟩
def Fq (q : Int) (d : Rat) : Rat:=rts q (cosQ d) (sinQ d)
theorem rts_ab (k : Int) {c s c' s' e : Rat} (h1 : Ab (c - c') e) (h2 : Ab (s - s') e) : Ab (rts k c s - rts k c' s') e:=by
 unfold rts
 obtain h | h | h | h : k % 4 = 0 ∨ k % 4 = 1 ∨ k % 4 = 2 ∨ k % 4 = 3:=by omega
 ·simp only [h, if_true]; exact h2
 ·simp only [h, if_true, show ¬ ((1 : Int) = 0) by omega, if_false]; exact h1
 ·simp only [h, if_true, show ¬ ((2 : Int) = 0) by omega, show ¬ ((2 : Int) = 1) by omega, if_false]
  unfold Ab at *; grind
 ·simp only [h, show ¬ ((3 : Int) = 0) by omega, show ¬ ((3 : Int) = 1) by omega, show ¬ ((3 : Int) = 2) by omega, if_false]
  unfold Ab at *; grind
theorem rts_add (k q : Int) (c s : Rat) : rts q (rtc k c s) (rts k c s) = rts (k + q) c s:=by
 obtain h | h | h | h : k % 4 = 0 ∨ k % 4 = 1 ∨ k % 4 = 2 ∨ k % 4 = 3:=by omega
 all_goals
  obtain g | g | g | g : q % 4 = 0 ∨ q % 4 = 1 ∨ q % 4 = 2 ∨ q % 4 = 3:=by omega
 all_goals
  unfold rts rtc
  rw [Int.add_emod k q 4]
  simp only [h, g]
  simp
theorem rts_flip (k : Int) (c s : Rat) : rts (k + 2) c s = -rts k c s:=by
 obtain h | h | h | h : k % 4 = 0 ∨ k % 4 = 1 ∨ k % 4 = 2 ∨ k % 4 = 3:=by omega
 all_goals
  unfold rts
  rw [Int.add_emod k 2 4]
  simp only [h]
  simp
structure Dir (p : Nat) (d : Rat) (t R : Int) : Prop where
 tb : -(2 ^ 33) ≤ t ∧ t ≤ 2 ^ 33
 lo : (R : Rat) * hn p ≤ d - (t : Rat) * hP
 hi : d - (t : Rat) * hP ≤ ((R : Rat) + 2) * hn p
 ab : Ab (d - (t : Rat) * hP) (9 / 10)
def Va (p : Nat) (k R V : Int) : Prop:=Ab ((V : Rat) * hn p - rts k (cosQ ((R : Rat) * hn p)) (sinQ ((R : Rat) * hn p))) (1900000000000 * hn p)
theorem small_units {p : Nat} (hp : p ≤ 300) : 5 * eta ≤ hn p ∧ hn 400 ≤ hn p:=by
 have a:=hn_le (show p ≤ 400 by omega)
 have b:=hn_le (show p + 3 ≤ 3000 by omega)
 have h1:=hn_succ p
 have h2:=hn_succ (p + 1)
 have h3:=hn_succ (p + 2)
 have h4:=hn_pos p
 have : hn 3000 = eta:=rfl
 rw [this] at b
 constructor <;> grind
theorem Dir.rest {p : Nat} {d : Rat} {t R : Int} (h : Dir p d t R) (q : Int) (hp : p ≤ 300) : Ab (Fq q d - rts (t + q) (cosQ (d - (t : Rat) * hP)) (sinQ (d - (t : Rat) * hP))) (hn p):=by
 have b:=small_units hp
 have t1:=turn_int (k:=t) (r:=d - (t : Rat) * hP) (by have:=h.tb; omega) (h.ab.le (by grind))
 rw [show d - (t : Rat) * hP + (t : Rat) * hP = d by grind] at t1
 have:=rts_ab q t1.1 t1.2
 rw [rts_add] at this
 exact this.le b.2
theorem Dir.val {p : Nat} {d : Rat} {t R V q : Int} (h : Dir p d t R) (hv : Va p (t + q) R V) (hp : p ≤ 300) (hp2 : 3 ≤ p) : Ab ((V : Rat) * hn p - Fq q d) (1900000000010 * hn p):=by
 have b:=small_units hp
 have r:=h.rest q hp
 have h0:=hn_pos p
 have hle : hn p ≤ hn 3:=hn_le hp2
 have h3 : 8 * hn 3 = 1:=by decide +kernel
 have big:=two_big
 have lo:=h.lo
 have hi:=h.hi
 have ab:=h.ab
 have l:=lip (y:=(R : Rat) * hn p) (u:=d - (t : Rat) * hP - (R : Rat) * hn p) (U:=2 * hn p) (by
  unfold Ab at *
  constructor <;> grind) (by
  unfold Ab
  constructor <;> grind) (by grind)
 rw [show (R : Rat) * hn p + (d - (t : Rat) * hP - (R : Rat) * hn p) = d - (t : Rat) * hP by grind] at l
 have m:=rts_ab (t + q) l.1 l.2
 unfold Va at hv
 have f:=(hv.sub m).sub r
 generalize rts (t + q) (cosQ ((R : Rat) * hn p)) (sinQ ((R : Rat) * hn p)) = z1 at *
 generalize rts (t + q) (cosQ (d - (t : Rat) * hP)) (sinQ (d - (t : Rat) * hP)) = z2 at *
 rw [show (V : Rat) * hn p - z1 - (z2 - z1) - (Fq q d - z2) = (V : Rat) * hn p - Fq q d by grind] at f
 exact f.le (by grind)
theorem Dir.near {p : Nat} {d : Rat} {t R q : Int} (h : Dir p d t R) (hk : (t + q) % 4 = 3) (h0 : Ab (d - (t : Rat) * hP) (2 * hn p)) (hp : p ≤ 300) (hp2 : 3 ≤ p) : Fq q d ≤ -1 + 4 * hn p:=by
 have b:=small_units hp
 have r:=h.rest q hp
 have h1:=hn_pos p
 have hle : hn p ≤ hn 3:=hn_le hp2
 have h3 : 8 * hn 3 = 1:=by decide +kernel
 have s:=(si_small h0 (by grind)).1
 have e : ∀ c s : Rat, rts (t + q) c s = -c:=fun c s => by unfold rts; simp [hk]
 rw [e] at r
 have b1:=b.1
 clear b h0 e hk h
 generalize cosQ (d - (t : Rat) * hP) = c at *
 generalize eta = et at *
 generalize Fq q d = F at *
 generalize hn p = u at *
 unfold Ab at *
 grind
structure LoB (q : Int) (w : Nat) (d1 d2 : Rat) (A : Int) : Prop where
 one : -(2 ^ w) ≤ A
 e1 : A = -(2 ^ w) ∨ (A : Rat) * hn w ≤ Fq q d1 - hn (w + 30)
 e2 : A = -(2 ^ w) ∨ (A : Rat) * hn w ≤ Fq q d2 - hn (w + 30)
 at1 : ∀ k : Int, (k + q) % 4 = 3 → d1 ≤ (k : Rat) * hP → (k : Rat) * hP ≤ d2 → A = -(2 ^ w)
 near : (∃ k : Int, (k + q) % 4 = 3 ∧ d1 ≤ (k : Rat) * hP ∧ (k : Rat) * hP ≤ d2) ∨ Fq q d1 - 5 / 4 * hn w ≤ (A : Rat) * hn w ∨ Fq q d2 - 5 / 4 * hn w ≤ (A : Rat) * hn w
def pass (x n1 n2 : Int) : Bool:=decide (n1 + (x - n1) % 4 ≤ n2)
theorem pass_iff (x n1 n2 : Int) : pass x n1 n2 = true ↔ ∃ m, n1 ≤ m ∧ m ≤ n2 ∧ m % 4 = x % 4:=by
 unfold pass
 rw [decide_eq_true_eq]
 constructor
 ·intro h
  exact ⟨n1 + (x - n1) % 4, by omega, h, by omega⟩
 ·intro ⟨m, h1, h2, h3⟩
  omega
theorem int_le_of {k t : Int} (h : -1 < (k : Rat) - (t : Rat)) : t ≤ k:=by
 refine Int.not_lt.1 fun hlt => ?_
 have:=Rat.intCast_le_intCast.2 (show k + 1 ≤ t by omega)
 rw [Rat.intCast_add, show ((1 : Int) : Rat) = 1 from rfl] at this
 grind
theorem hP_lo : 1 < hP:=by have:=hP_ab.2; unfold Ab at this; grind
theorem turns_ge {d : Rat} {k t : Int} (hr : Ab (d - (t : Rat) * hP) (9 / 10)) (h : d ≤ (k : Rat) * hP) : t ≤ k ∧ (0 < d - (t : Rat) * hP → t + 1 ≤ k):=by
 have hp:=hP_lo
 have a : t ≤ k:=by
  refine int_le_of (Rat.not_le.1 fun hle => ?_)
  have:=Rat.mul_le_mul_of_nonneg_right hle (show 0 ≤ hP by grind)
  unfold Ab at hr
  grind
 refine ⟨a, fun hpos => ?_⟩
 refine Int.not_lt.1 fun hlt => ?_
 have : k = t:=by omega
 rw [this] at h
 grind
theorem turns_le {d : Rat} {k t : Int} (hr : Ab (d - (t : Rat) * hP) (9 / 10)) (h : (k : Rat) * hP ≤ d) : k ≤ t:=by
 have hp:=hP_lo
 refine int_le_of (Rat.not_le.1 fun hle => ?_)
 have:=Rat.mul_le_mul_of_nonneg_right hle (show 0 ≤ hP by grind)
 unfold Ab at hr
 grind
theorem hn_up (a b : Nat) : hn a = ((2 ^ b : Nat) : Rat) * hn (a + b):=by
 have:=two_hn b
 rw [hn_add, show ((2 ^ b : Nat) : Rat) * (hn a * hn b) = ((2 ^ b : Nat) : Rat) * hn b * hn a by grind, this]
 grind
theorem pow_hn (p : Nat) : ((2 ^ p : Int) : Rat) * hn p = 1:=by
 have:=two_hn p
 rw [show ((2 ^ p : Int) : Rat) = ((2 ^ p : Nat) : Rat) by push_cast; rfl]
 exact this
theorem int_mul_hn {a b : Int} (p : Nat) (h : a ≤ b) : (a : Rat) * hn p ≤ (b : Rat) * hn p:=
 Rat.mul_le_mul_of_nonneg_right (Rat.intCast_le_intCast.2 h) (Rat.le_of_lt (hn_pos p))
theorem int_of_hn {a b : Int} (p : Nat) (h : (a : Rat) * hn p ≤ (b : Rat) * hn p) : a ≤ b:=
 Rat.intCast_le_intCast.1 (le_of_mul (hn_pos p) h)
theorem lo_ok {q : Int} {w p : Nat} {d1 d2 : Rat} {t1 R1 V1 t2 R2 V2 L : Int} (hp : p = w + 64) (hw : w ≤ 200) (D1 : Dir p d1 t1 R1) (D2 : Dir p d2 t2 R2)
  (v1 : Va p (t1 + q) R1 V1) (v2 : Va p (t2 + q) R2 V2)
  (hL : L = if pass 3 (t1 + q + (if 0 < R1 then 1 else 0)) (t2 + q - (if R2 < 0 then 1 else 0)) then -(2 ^ p) else min V1 V2) :
  LoB q w d1 d2 (max (-(2 ^ w)) ((L - 2 ^ 41) / 2 ^ 64)):=by
 have s1:=D1.val (q:=q) v1 (by omega) (by omega)
 have s2:=D2.val (q:=q) v2 (by omega) (by omega)
 have h0:=hn_pos p
 have e64 : hn w = 18446744073709551616 * hn p:=by
  have:=hn_up w 64
  rw [this, hp]; norm_cast
 have e30 : hn (w + 30) = 17179869184 * hn p:=by
  have:=hn_up (w + 30) 34
  rw [this, hp, show w + 30 + 34 = w + 64 by omega]; norm_cast
 have ew : (((2 : Int) ^ w : Int) : Rat) * hn w = 1:=pow_hn w
 have ep : (((2 : Int) ^ p : Int) : Rat) * hn p = 1:=pow_hn p
 have epw : (2 : Int) ^ p = 2 ^ w * 18446744073709551616:=by rw [hp, Int.pow_add]; rfl
 obtain ⟨A0, hA0⟩ : ∃ A0, A0 = (L - 2 ^ 41) / 2 ^ 64:=⟨_, rfl⟩
 have f1 : A0 * 18446744073709551616 ≤ L - 2199023255552:=by omega
 have f2 : L - 2199023255552 < A0 * 18446744073709551616 + 18446744073709551616:=by omega
 obtain ⟨W, hW⟩ : ∃ W : Int, W = 2 ^ w:=⟨_, rfl⟩
 obtain ⟨A, hA⟩ : ∃ A, A = max (-W) A0:=⟨_, rfl⟩
 suffices hs : LoB q w d1 d2 A by rw [← hA0, ← hW, ← hA]; exact hs
 have hAW1 : A = -W → A = -(2 ^ w):=fun h => by rw [h, hW]
 rw [← hW] at ew epw
 have g1:=int_mul_hn p f1
 have g2:=int_mul_hn p (Int.le_of_lt f2)
 have gA:=int_mul_hn w (show A0 ≤ A by omega)
 have gW:=int_mul_hn w (show -W ≤ A by omega)
 simp only [Rat.intCast_mul, Rat.intCast_sub, Rat.intCast_add, Rat.intCast_neg] at g1 g2 gW
 rw [show ((18446744073709551616 : Int) : Rat) = 18446744073709551616 from rfl, show ((2199023255552 : Int) : Rat) = 2199023255552 from rfl] at g1 g2
 rw [show -(W : Rat) * hn w = -((W : Rat) * hn w) by grind, ew] at gW
 obtain ⟨n1, hn1⟩ : ∃ n1, n1 = t1 + q + (if 0 < R1 then 1 else 0):=⟨_, rfl⟩
 obtain ⟨n2, hn2⟩ : ∃ n2, n2 = t2 + q - (if R2 < 0 then 1 else 0):=⟨_, rfl⟩
 rw [← hn1, ← hn2] at hL
 have R1pos : 0 < R1 → 0 < d1 - (t1 : Rat) * hP:=fun hR => by
  have:=D1.lo
  have:=Rat.mul_pos (show (0 : Rat) < (R1 : Rat) by exact_mod_cast hR) h0
  grind
 have small : L ≤ -W * 18446744073709551616 + 1900000000100 → A = -W:=fun hl => by omega
 by_cases hps : pass 3 n1 n2 = true
 ·rw [if_pos hps] at hL
  have hAW : A = -W:=small (by omega)
  refine ⟨by omega, Or.inl (hAW1 hAW), Or.inl (hAW1 hAW), fun _ _ _ _ => hAW1 hAW, ?_⟩
  obtain ⟨m, m1, m2, m3⟩:=(pass_iff 3 n1 n2).1 hps
  by_cases c1 : d1 ≤ ((m - q : Int) : Rat) * hP
  ·by_cases c2 : ((m - q : Int) : Rat) * hP ≤ d2
   ·exact Or.inl ⟨m - q, by omega, c1, c2⟩
   ·exfalso
    have t:=turns_ge (k:=m - q) (t:=t2) D2.ab (by grind)
    have hk : m - q = t2:=by split at hn2 <;> omega
    have hR2 : 0 ≤ R2:=by split at hn2 <;> omega
    have:=D2.lo
    have:=Rat.mul_nonneg (show (0 : Rat) ≤ (R2 : Rat) by exact_mod_cast hR2) (Rat.le_of_lt h0)
    rw [hk] at c2
    grind
  ·have t:=turns_le (k:=m - q) (t:=t1) D1.ab (by grind)
   have hk : m - q = t1:=by split at hn1 <;> omega
   have hR1 : R1 ≤ 0:=by split at hn1 <;> omega
   have hi:=D1.hi
   have:=Rat.mul_nonneg (show (0 : Rat) ≤ ((-R1 : Int) : Rat) by exact_mod_cast (show 0 ≤ -R1 by omega)) (Rat.le_of_lt h0)
   rw [Rat.intCast_neg] at this
   rw [hk] at c1
   have nr:=D1.near (q:=q) (by omega) (by unfold Ab; constructor <;> grind) (by omega) (by omega)
   right; left
   rw [hAW, Rat.intCast_neg, show -(W : Rat) * hn w = -((W : Rat) * hn w) by grind, ew]
   grind
 ·rw [if_neg hps] at hL
  have hL1 : L ≤ V1:=by omega
  have hL2 : L ≤ V2:=by omega
  have k1:=int_mul_hn p hL1
  have k2:=int_mul_hn p hL2
  have eA : A = -W ∨ A = A0:=by omega
  have up : ∀ (V : Int) (F : Rat), (L : Rat) * hn p ≤ (V : Rat) * hn p → Ab ((V : Rat) * hn p - F) (1900000000010 * hn p) → A = -(2 ^ w) ∨ (A : Rat) * hn w ≤ F - hn (w + 30):=fun V F hl hv => by
   rcases eA with h | h
   ·exact Or.inl (hAW1 h)
   ·right
    rw [h, e64, e30]
    unfold Ab at hv
    grind
  refine ⟨by omega, up V1 _ k1 s1, up V2 _ k2 s2, fun k hk c1 c2 => ?_, ?_⟩
  ·have t:=turns_ge (k:=k) (t:=t1) D1.ab c1
   have u:=turns_le (k:=k) (t:=t2) D2.ab c2
   have no : ¬ (n1 ≤ k + q ∧ k + q ≤ n2):=fun hc => hps ((pass_iff 3 n1 n2).2 ⟨k + q, hc.1, hc.2, by omega⟩)
   have hR : n1 ≤ k + q:=by
    split at hn1
    ·have:=t.2 (R1pos (by assumption)); omega
    ·omega
   have hk2 : k = t2 ∧ R2 < 0:=by
    split at hn2
    ·constructor <;> omega
    ·omega
   have hi:=D2.hi
   have:=int_mul_hn p (show R2 ≤ 0 by omega)
   rw [show ((0 : Int) : Rat) = 0 from rfl] at this
   rw [hk2.1] at c2
   have nr:=D2.near (q:=q) (by omega) (by unfold Ab; constructor <;> grind) (by omega) (by omega)
   apply hAW1
   apply small
   have : V2 ≤ -W * 18446744073709551616 + 1900000000100:=by
    refine int_of_hn p ?_
    have z : ((-W * 18446744073709551616 + 1900000000100 : Int) : Rat) * hn p = -1 + 1900000000100 * hn p:=by
     rw [show (-W * 18446744073709551616 + 1900000000100 : Int) = -(2 ^ p) + 1900000000100 by rw [epw]; omega, Rat.intCast_add, Rat.intCast_neg, show ((1900000000100 : Int) : Rat) = 1900000000100 from rfl]
     grind
    rw [z]
    unfold Ab at s2
    grind
   omega
  ·right
   have eL : L = V1 ∨ L = V2:=by omega
   rcases eL with h | h
   ·left
    rw [h] at g2
    unfold Ab at s1
    rw [e64] at gA ⊢
    grind
   ·right
    rw [h] at g2
    unfold Ab at s2
    rw [e64] at gA ⊢
    grind
theorem cfrac_any (num den : Int) (w : World) (h1 : -4611686018427387904 ≤ num) (h2 : num ≤ 4611686018427387904) (hd : 0 < den) (hd2 : den ≤ 4611686018427387904) :
  Calls Tryz.prog 215 #[.int .i64 num, .int .i64 den] w (RetQ w (Rat.divInt num den)):=by
 have z1:=len_le2 (x:=num.natAbs) (by omega)
 have z2:=len_le2 (x:=den.natAbs) (by omega)
 have z3:=len_le2 (x:=1) (by omega)
 have g1:=fun W => pof_any num W (by omega) (by omega)
 have g2:=fun W => pof_any den W (by omega) (by omega)
 have g3:=fun v u W h k => pdiv_any num 1 den 1 v u W h k (show zl num ≤ 1000000 from Nat.le_trans z1 (by omega)) (by omega) (show zl den ≤ 1000000 from Nat.le_trans z2 (by omega)) (by omega) (by omega) (by omega)
 rw [show Rat.divInt (num * ((1 : Nat) : Int)) (((1 : Nat) : Int) * den) = Rat.divInt num den by rw [Int.natCast_one, Int.mul_one, Int.one_mul]] at g3
 unfold RetQ at g1 g2 ⊢
 simp only [Rat.num_intCast, Rat.den_intCast] at g1 g2
 generalize (Rat.divInt num den).num = a at *
 generalize (Rat.divInt num den).den = k at *
 have G1:=Hd9 g1
 have G2:=Hd9 g2
 have G3:=Hd9 g3
 clear g1 g2 g3 z1 z2 z3
 go_enter Tryz.func215, Tryz.ntmps215
 have L:=((Lq.mk0 w).varQ (w.heap.size) (by simp) false none none 0 0 0 0)
 obtain ⟨c00,c01,c02⟩:=L.b0.a3
 obtain ⟨f00,f01,f02⟩:=L.b0.f3
 (try go_wp2_with fail)
 refine (G1.out _).mono ?_
 rintro e w1 ⟨vv, rfl, iq, be⟩
 clear c00 f00 c01 f01 c02 f02
 obtain ⟨A1, c1, B1, d1, rfl, _, ia, ib⟩:=iq.form
 replace L:=((L.step be).n ib).n ia
 clear be iq ia ib
 obtain ⟨c00,c01,c02⟩:=L.b0.a3
 obtain ⟨f00,f01,f02⟩:=L.b0.f3
 (try go_wp2_with fail)
 refine (G2.out _).mono ?_
 rintro e w2 ⟨vv, rfl, iq, be⟩
 clear c00 f00 c01 f01 c02 f02
 obtain ⟨A2, c2, B2, d2, rfl, _, ia, ib⟩:=iq.form
 replace L:=((L.step be).n ib).n ia
 clear be iq ia ib
 obtain ⟨c00,c01,c02⟩:=L.b0.a3
 obtain ⟨f00,f01,f02⟩:=L.b0.f3
 (try go_wp2_with fail)
 refine (G3.out _ _ _ ⟨.slice A1 (zl num) c1, .slice B1 (len 1) d1, rfl, L.getN (by simp), L.getN (by simp)⟩ ⟨.slice A2 (zl den) c2, .slice B2 (len 1) d2, rfl, L.getN (by simp), L.getN (by simp)⟩).mono ?_
 rintro e w3 ⟨vv, rfl, iq, be⟩
 clear c00 f00 c01 f01 c02 f02
 obtain ⟨A3, c3, B3, d3, rfl, _, ia, ib⟩:=iq.form
 replace L:=((L.step be).n ib).n ia
 clear be iq ia ib
 have hl9:=L.b0.lt
 obtain ⟨c00,c01,c02⟩:=L.b0.a3
 obtain ⟨f00,f01,f02⟩:=L.b0.f3
 have LN:=L.varQ w3.heap.size rfl (ng a) A3 B3 (zl a) c3 (len k) d3
 obtain ⟨n0,n1,n2⟩:=LN.b0.a3
 go_wp2_with fail
 clear c00 f00 c01 f01 c02 f02
 have LP0:=L.putQ (by omega) (by simp) (ng a) A3 B3 (zl a) c3 (len k) d3
 have LP:=LP0.varQ _ rfl (ng a) A3 B3 (zl a) c3 (len k) d3
 obtain ⟨k0,k1,k2⟩:=LP.tl.b0.a3
 unfold put3 at k0 k1 k2
 exact bodyPost_ret (v:=.agg #[.bool (ng a), .slice A3 (zl a) c3, .slice B3 (len k) d3]) (by simp [results, Tryz.results215, go_sem, k0, k1, k2]) rfl ⟨_, rfl, ⟨_, _, rfl, LP.getN (by simp), LP.getN (by simp)⟩, LP.below⟩
theorem ctang_any (n sg : Int) (j : Nat) (w : World) (hn : 2 ≤ n) (hn2 : n ≤ 10000) (hs : sg = 1 ∨ sg = -1) (hj : j ≤ 1000) :
  Calls Tryz.prog 161 #[.int .i64 n, .int .i64 (j : Int), .int .i64 sg] w (RetQ w (Rat.divInt (tnP n sg j).1 (tnP n sg j).2)):=by
 have hnn : n * n ≤ 10000 * 10000:=Int.mul_le_mul hn2 hn2 (by omega) (by omega)
 have hnn2 : 2 * 2 ≤ n * n:=Int.mul_le_mul hn hn (by omega) (by omega)
 obtain ⟨q, hq⟩:=nm9 (n * n)
 obtain ⟨b, hb⟩:=nm9 (q + sg)
 have w1 : IntKind.i64.wrap (n * n) = q:=by rw [IntKind.wrap_i64]; omega
 have w2 : IntKind.i64.wrap (q + sg) = b:=by rw [IntKind.wrap_i64]; omega
 have w3 : IntKind.i64.wrap (sg * 2) = sg * 2:=by rw [IntKind.wrap_i64]; omega
 obtain ⟨u, hu⟩:=nm9 (sg * 2 * (j : Int))
 have hub : -2000 ≤ u ∧ u ≤ 2000:=by rcases hs with rfl | rfl <;> omega
 have w4 : IntKind.i64.wrap (sg * 2 * (j : Int)) = u:=by rw [IntKind.wrap_i64]; omega
 have w5 : IntKind.i64.wrap (2 * (j : Int)) = 2 * (j : Int):=by rw [IntKind.wrap_i64]; omega
 obtain ⟨m, hm⟩ : ∃ m : Int, 2 * (j : Int) + 1 = m:=⟨_, rfl⟩
 have w6 : IntKind.i64.wrap (2 * (j : Int) + 1) = m:=by rw [IntKind.wrap_i64]; omega
 rw [hq] at hnn hnn2
 have hmb : m * b ≤ 2001 * 100000001:=Int.mul_le_mul (by omega) (by omega) (by omega) (by omega)
 have hmb2 : 1 * 3 ≤ m * b:=Int.mul_le_mul (by omega) (by omega) (by omega) (by omega)
 obtain ⟨y, hy⟩:=nm9 (m * b)
 rw [hy] at hmb hmb2
 have w7 : IntKind.i64.wrap (m * b) = y:=by rw [IntKind.wrap_i64]; omega
 unfold tnP
 by_cases hj0 : j = 0
 ·subst hj0
  rw [if_pos rfl]
  simp only
  rw [hq, hb]
  have g1:=fun W => cfrac_any n b W (by omega) (by omega) (by omega) (by omega)
  unfold RetQ at g1 ⊢
  generalize (Rat.divInt n b).num = a at *
  generalize (Rat.divInt n b).den = k at *
  have G1:=Hd9 g1
  clear g1 hy hm hu hb hq hnn hnn2 hmb hmb2 w3 w4 w5 w6 w7 hub
  go_enter Tryz.func161, Tryz.ntmps161
  have L:=((Lq.mk0 w).varQ (w.heap.size) (by simp) false none none 0 0 0 0)
  obtain ⟨c00,c01,c02⟩:=L.b0.a3
  obtain ⟨f00,f01,f02⟩:=L.b0.f3
  (try go_wp2_with fail)
  refine (G1.out _).mono ?_
  rintro e w1 ⟨vv, rfl, iq, be⟩
  clear c00 f00 c01 f01 c02 f02
  obtain ⟨A9, c9, B9, d9, rfl, _, ia, ib⟩:=iq.form
  replace L:=((L.step be).n ib).n ia
  clear be iq ia ib
  obtain ⟨c00,c01,c02⟩:=L.b0.a3
  obtain ⟨f00,f01,f02⟩:=L.b0.f3
  (try go_wp2_with fail)
  have LP:=L.putQ (by omega) (by first | (simp; done) | (simp; omega)) (ng (a)) A9 B9 (zl (a)) c9 (len (k)) d9
  obtain ⟨k0,k1,k2⟩:=LP.b0.a3
  unfold put3 at k0 k1 k2
  exact bodyPost_ret (v:=.agg #[.bool (ng (a)), .slice A9 (zl (a)) c9, .slice B9 (len (k)) d9]) (by simp [results, Tryz.results161, go_sem, k0, k1, k2]) rfl ⟨_, rfl, ⟨_, _, rfl, LP.getN (by simp), LP.getN (by simp)⟩, LP.below⟩
 ·rw [if_neg hj0]
  simp only
  rw [hq, hb, hu, hm, hy]
  have q0 : ((j : Int) == 0) = false:=by rw [beq_eq_false_iff_ne]; omega
  have g1:=fun W => cfrac_any u y W (by omega) (by omega) (by omega) (by omega)
  unfold RetQ at g1 ⊢
  generalize (Rat.divInt u y).num = a at *
  generalize (Rat.divInt u y).den = k at *
  have G1:=Hd9 g1
  clear g1 hy hm hu hb hq hnn hnn2 hmb hmb2 hub
  go_enter Tryz.func161, Tryz.ntmps161
  have L:=((Lq.mk0 w).varQ (w.heap.size) (by simp) false none none 0 0 0 0)
  obtain ⟨c00,c01,c02⟩:=L.b0.a3
  obtain ⟨f00,f01,f02⟩:=L.b0.f3
  (try go_wp2_with fail)
  refine (G1.out _).mono ?_
  rintro e w1 ⟨vv, rfl, iq, be⟩
  clear c00 f00 c01 f01 c02 f02
  obtain ⟨A9, c9, B9, d9, rfl, _, ia, ib⟩:=iq.form
  replace L:=((L.step be).n ib).n ia
  clear be iq ia ib
  obtain ⟨c00,c01,c02⟩:=L.b0.a3
  obtain ⟨f00,f01,f02⟩:=L.b0.f3
  (try go_wp2_with fail)
  have LP:=L.putQ (by omega) (by first | (simp; done) | (simp; omega)) (ng (a)) A9 B9 (zl (a)) c9 (len (k)) d9
  obtain ⟨k0,k1,k2⟩:=LP.b0.a3
  unfold put3 at k0 k1 k2
  exact bodyPost_ret (v:=.agg #[.bool (ng (a)), .slice A9 (zl (a)) c9, .slice B9 (len (k)) d9]) (by simp [results, Tryz.results161, go_sem, k0, k1, k2]) rfl ⟨_, rfl, ⟨_, _, rfl, LP.getN (by simp), LP.getN (by simp)⟩, LP.below⟩
theorem carc_any (n : Int) (j : Nat) (w : World) (hn : 2 ≤ n) (hn2 : n ≤ 10000) (hj : j ≤ 1000) :
  Calls Tryz.prog 94 #[.int .i64 n, .int .i64 (j : Int)] w (RetQ w (Rat.divInt (tnP n (1) j).1 (tnP n (1) j).2)):=by
 have g1:=fun W => ctang_any n (1) j W hn hn2 (by omega) hj
 unfold RetQ at g1 ⊢
 generalize (Rat.divInt (tnP n (1) j).1 (tnP n (1) j).2).num = a at *
 generalize (Rat.divInt (tnP n (1) j).1 (tnP n (1) j).2).den = k at *
 have G1:=Hd9 g1
 clear g1
 go_enter Tryz.func94, Tryz.ntmps94
 have L:=((Lq.mk0 w).varQ (w.heap.size) (by simp) false none none 0 0 0 0)
 obtain ⟨c00,c01,c02⟩:=L.b0.a3
 obtain ⟨f00,f01,f02⟩:=L.b0.f3
 (try go_wp2_with fail)
 refine (G1.out _).mono ?_
 rintro e w1 ⟨vv, rfl, iq, be⟩
 clear c00 f00 c01 f01 c02 f02
 obtain ⟨A9, c9, B9, d9, rfl, _, ia, ib⟩:=iq.form
 replace L:=((L.step be).n ib).n ia
 clear be iq ia ib
 obtain ⟨c00,c01,c02⟩:=L.b0.a3
 obtain ⟨f00,f01,f02⟩:=L.b0.f3
 (try go_wp2_with fail)
 have LP:=L.putQ (by omega) (by first | (simp; done) | (simp; omega)) (ng (a)) A9 B9 (zl (a)) c9 (len (k)) d9
 obtain ⟨k0,k1,k2⟩:=LP.b0.a3
 unfold put3 at k0 k1 k2
 exact bodyPost_ret (v:=.agg #[.bool (ng (a)), .slice A9 (zl (a)) c9, .slice B9 (len (k)) d9]) (by simp [results, Tryz.results94, go_sem, k0, k1, k2]) rfl ⟨_, rfl, ⟨_, _, rfl, LP.getN (by simp), LP.getN (by simp)⟩, LP.below⟩
def okW (p : Int) : Bool:=decide (0 ≤ p) && decide (p ≤ 4224)
theorem cperm_any (p : Int) (w : World) :
  Calls Tryz.prog 158 #[.int .i64 p] w (fun e w' => e = .returned (.bool (okW p)) ∧ w = w'):=by
 unfold okW
 by_cases q1 : 0 ≤ p
 ·have b1 : decide (0 ≤ p) = true:=decide_eq_true q1
  rw [b1, Bool.true_and]
  go_enter Tryz.func158, Tryz.ntmps158
  go_wp2_with fail
  go_ret
  exact ⟨rfl, rfl⟩
 ·have b1 : decide (0 ≤ p) = false:=decide_eq_false q1
  rw [b1, Bool.false_and]
  go_enter Tryz.func158, Tryz.ntmps158
  go_wp2_with fail
  go_ret
  exact ⟨rfl, rfl⟩

theorem plainP (a : Int) (F : Nat) (n : Int) : Plain #[.int .i64 a, .func (.func F) #[] #[], .int .i64 n]:=fun j x => by
 match j with
 | 0 => simp
 | 1 => simp
 | 2 => simp
 | j + 3 => simp
theorem Lq.varP {w0 w : World} {ns : List (Value × Nat)} {zs : List (Value × Int)} {qs : List (Value × Int × Nat)} {bs : List (Nat × TypeId × Array Value)} (h : Lq w0 w ns zs qs bs) (g : Nat) (hg : g = w.heap.size) (a : Int) (F : Nat) (n : Int) : Lq w0 (w.alloc (.cells #[.int .i64 a, .func (.func F) #[] #[], .int .i64 n] 113)) ns zs qs ((g, 113, #[.int .i64 a, .func (.func F) #[] #[], .int .i64 n]) :: bs):=h.var g hg _ _ (plainP _ _ _)
theorem Lq.subs {w0 w : World} {ns : List (Value × Nat)} {zs : List (Value × Int)} {qs : List (Value × Int × Nat)} {bs : List (Nat × TypeId × Array Value)} (h : Lq w0 w ns zs qs bs) {ns' : List (Value × Nat)} {bs' : List (Nat × TypeId × Array Value)} (h1 : ∀ p ∈ ns', p ∈ ns) (h2 : ∀ b ∈ bs', b ∈ bs) : Lq w0 w ns' [] [] bs':=
 ⟨h.below, fun x hx => h.ns x (h1 x hx), fun _ x => (by cases x), fun _ x => (by cases x), fun x hx => h.bs x (h2 x hx)⟩

theorem csum_any (F : Nat) (hen : ∀ args w, (callFunc F args).run Tryz.prog w = .ok (.enter F args) w) (p : Nat → Int × Int) (n fac S : Int) (v : Nat) (w : World) (hg : GdP p) (hS : smP p 600 0 (2 ^ v) 0 = some S) (hfac : AbP fac 10) (hv : v ≤ 4200) (hT : Tab w) (hf : ∀ (j : Nat) W, j ≤ 1000 → Calls Tryz.prog F #[.int .i64 n, .int .i64 (j : Int)] W (RetQ W (Rat.divInt (p j).1 (p j).2))) :
  Calls Tryz.prog 159 #[.agg #[.int .i64 fac, .func (.func F) #[] #[], .int .i64 n], .int .i64 (v : Int)] w (RetD8 w (mkM (S * fac) 0) (mkE (S * fac) 0)):=by
 have hfb : -1024 ≤ fac ∧ fac ≤ 1024:=by
  have e10 : (2 : Nat) ^ 10 = 1024:=by decide
  unfold AbP at hfac
  rw [e10] at hfac
  omega
 have hSb:=smP_abs hg 600 0 _ _ _ (sp_first hS)
 have HR0:=sp_first hS
 have HT:=Hd9 (fun W (hW : Below w.heap.size w W) => hT.mono hW)
 have g1:=fun W (hW : Below w.heap.size w W) => dof_any 1 W (by omega) (by omega) (hT.mono hW)
 obtain ⟨u1, u2, u3⟩:=nf_up (k:=v) (by omega)
 obtain ⟨_, y2, y3, y4, _, _⟩:=nf (t:=1) (v:=0) (by unfold AbP; decide) (by omega)
 have g2:=fun x W h (hW : Below w.heap.size w W) => dshift_any (mkM 1 0) (mkE 1 0) (v : Int) x W h (by omega) (by omega) (by omega) (hT.mono hW)
 rw [u1, u2, u3] at g2
 have g3:=fun W (hW : Below w.heap.size w W) => dof_any fac W (by omega) (by omega) (hT.mono hW)
 obtain ⟨f1, f2, f3, f4, _, _⟩:=nf hfac (by omega)
 obtain ⟨s1, s2, s3, s4, _, _⟩:=nf hSb (by omega)
 obtain ⟨m1, m2, m3⟩:=nf_mul hSb hfac (by omega)
 have g4:=fun x y W h k (hW : Below w.heap.size w W) => dmul_any (mkM S 0) (mkE S 0) (mkM fac 0) (mkE fac 0) x y W h k (by omega) (by omega) (by omega) (by omega) (hT.mono hW)
 rw [m1, m2, m3] at g4
 clear hfb hfac u1 u2 u3 y2 y3 y4 f1 f2 f3 f4 s1 s2 s3 s4 m1 m2 m3 hS hSb
 generalize mkM (S * fac) 0 = Mr at *
 generalize mkE (S * fac) 0 = Er at *
 generalize mkM fac 0 = Mf at *
 generalize mkE fac 0 = Ef at *
 generalize mkM 1 0 = M1 at *
 generalize mkE 1 0 = E1 at *
 generalize hP : (2 : Int) ^ v = P at *
 obtain ⟨M, hM⟩:=nm9 (mkM P 0)
 obtain ⟨E, hE⟩:=nm9 (mkE P 0)
 rw [hM, hE] at g2
 have HR:=Hd9 (And.intro HR0 (And.intro (And.intro hM hE) nf00))
 have G1:=Hd9 g1
 have G2:=Hd9 g2
 have G3:=Hd9 g3
 have G4:=Hd9 g4
 have HF:=Hd9 hf
 have HG:=Hd9 hg
 have HV:=Hd9 hv
 clear g1 g2 g3 g4 hf hg hv HR0 hM hE hP hT
 go_enter Tryz.func159, Tryz.ntmps159
 have L:=((((Lq.mk0 w).varP (w.heap.size) (by simp) fac F n).varD (w.heap.size + 1) (by simp) false none 0 0 0).varD (w.heap.size + 2) (by simp) false none 0 0 0)
 obtain ⟨c00,c01,c02⟩:=L.b0.a3
 obtain ⟨f00,f01,f02⟩:=L.b0.f3
 (try go_wp2_with fail)
 refine (G1.out _ L.below).mono ?_
 rintro e w1 ⟨v1, rfl, id, be⟩
 clear c00 f00 c01 f01 c02 f02
 replace L:=L.step be
 clear be
 (try go_wp2_with fail)
 refine (G2.out _ _ id L.below).mono ?_
 rintro e w2 ⟨v2, rfl, iz, be⟩
 obtain ⟨A1, c1, rfl, _, in9⟩:=iz.form
 replace L:=(L.step be).n in9
 clear be iz in9 id
 have hl9:=L.b0.lt
 replace L:=L.varD w2.heap.size rfl (ng M) A1 (zl M) c1 E
 obtain ⟨c00,c01,c02⟩:=L.b0.a3
 go_wp2_with fail
 clear c00 c01 c02
 obtain ⟨gt, hgt⟩:=nm9 (w2.heap.size)
 rw [hgt] at L hl9 ⊢
 clear hgt
 clear G1 G2
 go_loopw [8] (fun i wr => ∃ (f k : Nat) (t s M E N K : Int) (A1 A2 : Option Addr) (c1 c2 : Nat), i = .int .i64 (k : Int) ∧ Lq w wr [(.slice A1 (zl M) c1, M.natAbs), (.slice A2 (zl N) c2, N.natAbs)] [] [] [(gt, 26, #[.bool (ng M), .slice A1 (zl M) c1, .int .i64 E]), (w.heap.size + 2, 26, #[.bool (ng N), .slice A2 (zl N) c2, .int .i64 K]), (w.heap.size, 113, #[.int .i64 fac, .func (.func F) #[] #[], .int .i64 n]), (w.heap.size + 1, 26, #[.bool false, .slice none 0 0, .int .i64 0])] ∧ Hid (SpI p v f k t s S ∧ (mkM t 0 = M ∧ mkE t 0 = E) ∧ mkM s 0 = N ∧ mkE s 0 = K)) (fun i _ => 700 - (intOf i).toNat)
 case atStart =>
  have zz : zl 0 = 0:=len_zero
  have LN:=L.n (v:=.slice none 0 0) (x:=0) (IsN.zero _)
  refine ⟨600, 0, P, 0, M, E, 0, 0, A1, none, c1, 0, by go_num, ?_, HR⟩
  rw [zz]
  exact LN.subs (by simp) (by simp [ng])
 case round =>
  clear L HR
  obtain ⟨f, k, t, s, M, E, N, K, A1, A2, c1, c2, rfl, L, HR⟩:=hrel
  obtain ⟨hI, ⟨hM, hE⟩, hN, hK⟩:=HR.out
  have hv:=HV.out
  obtain ⟨ht, hs, hfk, _⟩:=id hI
  obtain ⟨_, z2, z3, z4, _, _⟩:=nf ht (by omega)
  obtain ⟨q1, q2⟩:=nf_rat ht (by omega)
  obtain ⟨g, rfl, hk, ht2, n1, n2⟩:=hI.step HG.out
  obtain ⟨r1, r2, r3, r4, _, _⟩:=nf ht2 (by omega)
  have r5:=nf_sign ht2 (by omega)
  obtain ⟨p1, p2, p3⟩:=HG.out k (by omega)
  have zt:=ht.zl
  have hb9:=L.tl.b0.lt
  have hc9:=L.b0.lt
  have o1:=fun x W h => drat_any (mkM t 0) (mkE t 0) x W h (by omega) (by omega)
  rw [q1, q2] at o1
  have o2:=fun W => HF.out k W (by omega)
  unfold RetQ at o2
  have cs:=cut_st p k t p2
  obtain ⟨d, hd⟩ : ∃ d : Nat, (p k).2 = (d : Int):=⟨(p k).2.toNat, by omega⟩
  have ds:=divInt_small (p k).1 d 2 (show zl (p k).1 ≤ 2 from len_le2 (by omega)) (len_le2 (by omega)) (by omega)
  rw [← hd] at ds
  have dp:=den_pos' (Rat.divInt (p k).1 (p k).2)
  generalize (Rat.divInt (p k).1 (p k).2).num = a at *
  generalize (Rat.divInt (p k).1 (p k).2).den = b at *
  have o3:=fun x y W h j => pmul_any t 1 a b x y W h j (by omega) (show len 1 ≤ 1000000 from Nat.le_trans (len_le1 (by omega)) (by omega)) (by omega) (by omega) (by omega) dp
  unfold RetQ at o3
  have sz:=divInt_small (t * a) (1 * b) 600 (by have:=zl_mul t a; omega) (by rw [Nat.one_mul]; omega) (by omega)
  rw [Int.natCast_mul] at sz
  have xp:=den_pos' (Rat.divInt (t * a) (((1 : Nat) : Int) * (b : Int)))
  have xe:=rat_self (Rat.divInt (t * a) (((1 : Nat) : Int) * (b : Int)))
  generalize Rat.divInt (t * a) (((1 : Nat) : Int) * (b : Int)) = X at *
  have o4:=fun x W h (hW : Below w.heap.size w W) => gfloorR_any X.num X.den 0 x W h (by omega) (by omega) xp (by omega) (by omega) (HT.out W hW)
  obtain ⟨e1, e2, e3⟩:=g_yes (p:=0) (by decide) (cutQ (Rat.divInt X.num (X.den : Int)) 0)
  rw [e1, e2, e3, xe, cs, Int.neg_zero, r1] at o4
  have o5:=fun x W h => dsign_any (mkM (stP p k t) 0) (mkE (stP p k t) 0) x W h (by omega)
  have hsu:=ht2.up (show v ≤ v + k by omega)
  obtain ⟨a1, a2, a3⟩:=nf_add hs hsu (by omega)
  obtain ⟨_, b2, b3, b4, _, _⟩:=nf hs (by omega)
  have o6:=fun x y W h j (hW : Below w.heap.size w W) => dadd_any (mkM s 0) (mkE s 0) (mkM (stP p k t) 0) (mkE (stP p k t) 0) x y W h j (by omega) (by omega) (by omega) (by omega) (HT.out W hW)
  rw [a1, a2, a3] at o6
  have w3 : IntKind.i64.wrap ((k : Int) + 1) = (k : Int) + 1:=by rw [IntKind.wrap_i64]; omega
  clear q1 q2 z2 z3 z4 p1 p2 p3 hd ds cs sz xp xe e1 e2 e3 r1 r2 r3 r4 a1 a2 a3 b2 b3 b4 hsu zt dp hI hv ht hs ht2
  obtain ⟨t2, ht2⟩:=nm9 (stP p k t)
  rw [ht2] at n1 n2 r5 o4 o5 o6
  obtain ⟨s2, hs2⟩:=nm9 (s + t2)
  rw [hs2] at n2 o6
  rw [hM, hE] at o1
  rw [hN, hK] at o6
  obtain ⟨M2, hM2⟩:=nm9 (mkM t2 0)
  obtain ⟨E2, hE2⟩:=nm9 (mkE t2 0)
  obtain ⟨N2, hN2⟩:=nm9 (mkM s2 0)
  obtain ⟨K2, hK2⟩:=nm9 (mkE s2 0)
  rw [hM2, hE2] at o4 o5 o6
  rw [hM2] at r5
  rw [hN2, hK2] at o6
  generalize X.num = xa at *
  generalize X.den = xd at *
  obtain ⟨sg9, hsg9⟩:=nm9 (cmpI M2 0)
  rw [hsg9] at o5 r5
  have O1:=Hd9 o1
  have O2:=Hd9 o2
  have O3:=Hd9 o3
  have O4:=Hd9 o4
  have O5:=Hd9 o5
  have O6:=Hd9 o6
  have HQ:=Hd9 (And.intro (And.intro hN hK) (And.intro n1 n2))
  have HM2:=Hd9 (And.intro (And.intro hM2 hE2) (And.intro hN2 hK2))
  clear o1 o2 o3 o4 o5 o6 hsg9 n1 n2 hM hE hN hK hM2 hE2 hN2 hK2 hs2 ht2 HR hfk X
  have nb : w.heap.size + 2 ≠ gt:=by omega
  (try go_wp2_with fail)
  replace L:=L.drew
  obtain ⟨cel00,cel01,cel02⟩:=L.b0.a3
  obtain ⟨f00,f01,f02⟩:=L.b0.f3
  obtain ⟨cel20,cel21,cel22⟩:=L.tl.tl.b0.a3
  go_cut [30] from 18 to 30 (fun s9 wx => ∃ (A3 : Option Addr) (c3 : Nat), Lq w wx [(.slice A3 (zl M2) c3, M2.natAbs), (.slice A2 (zl N) c2, N.natAbs)] [] [] [(gt, 26, #[.bool (ng M2), .slice A3 (zl M2) c3, .int .i64 E2]), (w.heap.size + 2, 26, #[.bool (ng N), .slice A2 (zl N) c2, .int .i64 K]), (w.heap.size, 113, #[.int .i64 fac, .func (.func F) #[] #[], .int .i64 n]), (w.heap.size + 1, 26, #[.bool false, .slice none 0 0, .int .i64 0])])
  case first =>
   go_region_with (first | (go_at_call 214; (with_reducible refine (O1.out _ _ ?_ ).mono ?_); (· (refine isD_n (L.getN ?_); (repeat (first | (with_reducible exact mS) | apply mT)))); rintro e9 wh ⟨vh, rfl, iq, be⟩; obtain ⟨Af, cf, Bf, df, rfl, _, _, _⟩:=iq.form; replace L:=(L.step be).q iq; clear be iq; (try (obtain ⟨xx00,xx01,xx02⟩:=L.b0.a3; obtain ⟨yy00,yy01,yy02⟩:=L.b0.f3)); (try (obtain ⟨xx20,xx21,xx22⟩:=L.tl.tl.b0.a3))) | ((with_reducible refine (O2.out _ ).mono ?_); rintro e9 wh ⟨vh, rfl, iq, be⟩; obtain ⟨Af, cf, Bf, df, rfl, _, _, _⟩:=iq.form; replace L:=(L.step be).q iq; clear be iq; (try (obtain ⟨xx00,xx01,xx02⟩:=L.b0.a3; obtain ⟨yy00,yy01,yy02⟩:=L.b0.f3)); (try (obtain ⟨xx20,xx21,xx22⟩:=L.tl.tl.b0.a3))) | (go_at_call 213; (with_reducible refine (O3.out _ _ _ ?_ ?_ ).mono ?_); (· (refine L.getQ ?_; (repeat (first | (with_reducible exact mS) | apply mT)))); (· (refine L.getQ ?_; (repeat (first | (with_reducible exact mS) | apply mT)))); rintro e9 wh ⟨vh, rfl, iq, be⟩; obtain ⟨Af, cf, Bf, df, rfl, _, _, _⟩:=iq.form; replace L:=(L.step be).q iq; clear be iq; (try (obtain ⟨xx00,xx01,xx02⟩:=L.b0.a3; obtain ⟨yy00,yy01,yy02⟩:=L.b0.f3)); (try (obtain ⟨xx20,xx21,xx22⟩:=L.tl.tl.b0.a3))) | (go_at_call 101; (with_reducible refine (O4.out _ _ ?_ ?_ ).mono ?_); (· (refine L.getQ ?_; (repeat (first | (with_reducible exact mS) | apply mT)))); (· exact L.below); rintro e9 wh ⟨vh, rfl, id, be⟩; obtain ⟨A3, c3, rfl, _, in9⟩:=id.form; replace L:=(L.step be).n in9; clear be id in9; (try (obtain ⟨xx00,xx01,xx02⟩:=L.b0.a3; obtain ⟨yy00,yy01,yy02⟩:=L.b0.f3)); (try (obtain ⟨xx20,xx21,xx22⟩:=L.tl.tl.b0.a3))))
   all_goals
    have P:=L.putD (by omega) (by first | (simp; done) | (simp; omega)) (ng M2) A3 (zl M2) c3 E2
    unfold put3 at P
    go_wp2_with fail
    go_meet
    exact ⟨A3, c3, P.subs (by simp) (by simp)⟩
  case rest =>
   clear L
   obtain ⟨A3, c3, L⟩:=hcut
   have hgt:=L.b0.lt
   obtain ⟨cel00,cel01,cel02⟩:=L.b0.a3
   obtain ⟨f00,f01,f02⟩:=L.b0.f3
   (try go_wp2_with fail)
   refine (O5.out _ _ (isD_n (m:=M2) (e:=E2) (s:=.slice A3 (zl M2) c3) (L.getN (by simp)))).mono ?_
   rintro e w12 ⟨rfl, be⟩
   clear cel00 f00 cel01 f01 cel02 f02
   replace L:=L.step be
   clear be
   by_cases h0 : t2 = 0
   ·have r6 : (sg9 == 0) = true:=r5.trans (decide_eq_true h0)
    obtain rfl:=HQ.out.2.1 h0
    have G4':=G4.out
    rw [HQ.out.1.1, HQ.out.1.2] at G4'
    have G5:=Hd9 G4'
    clear G4' G4 r5 HQ HM2 O1 O2 O3 O4 O5 O6
    replace L:=L.swap
    obtain ⟨cel00,cel01,cel02⟩:=L.b0.a3
    obtain ⟨f00,f01,f02⟩:=L.b0.f3
    obtain ⟨cel20,cel21,cel22⟩:=L.tl.tl.b0.a3
    (try go_wp2_with fail)
    replace L:=L.drew
    clear cel00 f00 cel01 f01 cel02 f02 cel20 cel21 cel22
    obtain ⟨cel00,cel01,cel02⟩:=L.b0.a3
    obtain ⟨f00,f01,f02⟩:=L.b0.f3
    obtain ⟨cel20,cel21,cel22⟩:=L.tl.tl.b0.a3
    go_region_with (first | (go_at_call 111; (with_reducible refine (G3.out _ ?_ ).mono ?_); (· exact L.below); rintro e9 wh ⟨vh, rfl, id, be⟩; obtain ⟨A4, c4, rfl, _, in9⟩:=id.form; replace L:=(L.step be).n in9; clear be id in9; (try (obtain ⟨xx00,xx01,xx02⟩:=L.b0.a3; obtain ⟨yy00,yy01,yy02⟩:=L.b0.f3)); (try (obtain ⟨xx20,xx21,xx22⟩:=L.tl.tl.b0.a3))) | (go_at_call 88; (with_reducible refine (G5.out _ _ _ ?_ ?_ ?_ ).mono ?_); (· (refine isD_n (L.getN ?_); (repeat (first | (with_reducible exact mS) | apply mT)))); (· (refine isD_n (L.getN ?_); (repeat (first | (with_reducible exact mS) | apply mT)))); (· exact L.below); rintro e9 wh ⟨vh, rfl, id, be⟩; obtain ⟨A5, c5, rfl, _, in9⟩:=id.form; replace L:=(L.step be).n in9; clear be id in9; (try (obtain ⟨xx00,xx01,xx02⟩:=L.b0.a3; obtain ⟨yy00,yy01,yy02⟩:=L.b0.f3)); (try (obtain ⟨xx20,xx21,xx22⟩:=L.tl.tl.b0.a3))))
    all_goals
     clear cel00 f00 cel01 f01 cel02 f02 cel20 cel21 cel22
     have P:=L.putD (by omega) (by first | (simp; done) | (simp; omega)) (ng Mr) A5 (zl Mr) c5 Er
     obtain ⟨p0,p1,p2⟩:=P.b0.a3
     obtain ⟨q0,q1,q2⟩:=P.tl.tl.tl.b0.a3
     obtain ⟨q3,q4,q5⟩:=P.tl.tl.tl.b0.f3
     unfold put3 at p0 p1 p2 q0 q1 q2 q3 q4 q5 P
     go_wp2_with fail
     replace L:=P.pull2.swap.pull2.pull2
     clear P p0 p1 p2 q0 q1 q2 q3 q4 q5
     have L4 : Lq w _ _ _ _ _:=L.subs (ns':=[(.slice A5 (zl Mr) c5, Mr.natAbs)]) (bs':=[(w.heap.size + 1, 26, #[.bool false, .slice none 0 0, .int .i64 0])]) (by simp) (by simp)
     clear L
     have L:=L4
     have LP:=L.putD (by omega) (by first | (simp; done) | (simp; omega)) (ng Mr) A5 (zl Mr) c5 (Er)
     obtain ⟨k0,k1,k2⟩:=LP.b0.a3
     unfold put3 at k0 k1 k2
     exact bodyPost_ret (v:=.agg #[.bool (ng Mr), .slice A5 (zl Mr) c5, .int .i64 (Er)]) (by simp [results, Tryz.results159, go_sem, k0, k1, k2]) rfl ⟨_, rfl, isD_n LP.hn, LP.below⟩
   ·have r6 : (sg9 == 0) = false:=r5.trans (decide_eq_false h0)
    have HI:=Hd9 (HQ.out.2.2 h0)
    clear r5 HQ O1 O2 O3 O4 O5 G3 G4
    replace L:=L.swap
    obtain ⟨cel00,cel01,cel02⟩:=L.b0.a3
    obtain ⟨f00,f01,f02⟩:=L.b0.f3
    obtain ⟨cel10,cel11,cel12⟩:=L.tl.b0.a3
    go_wp2_with fail
    refine (O6.out _ _ _ (isD_n (m:=N) (e:=K) (s:=.slice A2 (zl N) c2) (L.getN (by simp))) (isD_n (m:=M2) (e:=E2) (s:=.slice A3 (zl M2) c3) (L.getN (by simp))) L.below).mono ?_
    rintro e w13 ⟨vv, rfl, id, be⟩
    clear cel00 f00 cel01 f01 cel02 f02 cel10 cel11 cel12
    obtain ⟨A6, c6, rfl, _, in9⟩:=id.form
    replace L:=(L.step be).n in9
    clear be id in9
    obtain ⟨cel00,cel01,cel02⟩:=L.b0.a3
    obtain ⟨f00,f01,f02⟩:=L.b0.f3
    replace L:=L.putD (by omega) (by first | (simp; done) | (simp; omega)) (ng N2) A6 (zl N2) c6 K2
    unfold put3 at L
    go_wp2_with fail
    go_roundw
    case rel => exact ⟨g, k + 1, t2, s2, M2, E2, N2, K2, A3, A6, c3, c6, by go_num, L.subs (by simp) (by simp), Hd9 ⟨HI.out, HM2.out⟩⟩
    case measure => simp [intOf]; omega

theorem i10out_yes (m e n f p : Int) (vx : Value) (w : World) (hx : IsI w vx m e n f) (lm : zl m ≤ 1000) (ln : zl n ≤ 1000) (he : -20000 ≤ e ∧ e ≤ 20000) (hf : -20000 ≤ f ∧ f ≤ 20000) (hp1 : -9223372036854775808 ≤ p) (hp2 : p ≤ 9223372036854775807) (hp : permB p = true) (r1 : mkR (cutQ (dq m e) p) (-p) = 0) (r2 : mkR (-(cutQ (-(dq n f)) p)) (-p) = 0) (hT : Tab w) :
  Calls Tryz.prog 124 #[vx, .int .i64 p] w (RetIE w (mkM (cutQ (dq m e) p) (-p)) (mkE (cutQ (dq m e) p) (-p)) (mkM (-(cutQ (-(dq n f)) p)) (-p)) (mkE (-(cutQ (-(dq n f)) p)) (-p)) 0):=by
 obtain ⟨A, c, B, d, rfl, hn1, hn2⟩:=hx.form
 have L0:=((Lq.mk0 w).n hn2).n hn1
 have h1:=fun v W h (hW : Below w.heap.size w W) => gfloor_any m e p v W h (by omega) (by omega) hp1 hp2 (hT.mono hW)
 have h2:=fun v W h (hW : Below w.heap.size w W) => gceil_any n f p v W h (by omega) (by omega) hp1 hp2 (hT.mono hW)
 rw [(g_yes hp (cutQ (dq m e) p)).1, (g_yes hp (cutQ (dq m e) p)).2.1, (g_yes hp (cutQ (dq m e) p)).2.2] at h1
 rw [(g_yes hp (-(cutQ (-(dq n f)) p))).1, (g_yes hp (-(cutQ (-(dq n f)) p))).2.1, (g_yes hp (-(cutQ (-(dq n f)) p))).2.2] at h2
 rw [r1] at h1
 rw [r2] at h2
 generalize mkM (cutQ (dq m e) p) (-p) = M at *
 generalize mkE (cutQ (dq m e) p) (-p) = E at *
 generalize mkM (-(cutQ (-(dq n f)) p)) (-p) = N at *
 generalize mkE (-(cutQ (-(dq n f)) p)) (-p) = G at *
 have H1:=Hd9 h1
 have H2:=Hd9 h2
 clear h1 h2 hx hn1 hn2 lm ln he hf hp1 hp2 hp hT r1 r2
 go_enter Tryz.func124, Tryz.ntmps124
 go_wp2_with fail
 have L:=((L0.varI (w.heap.size) (by simp) (ng m) A (zl m) c e (ng n) B (zl n) d f).varI (w.heap.size + 1) (by simp) false none 0 0 0 false none 0 0 0)
 obtain ⟨c00,c01,c02,c03,c04,c05⟩:=L.b0.a6
 obtain ⟨f00,f01,f02,f03,f04,f05⟩:=L.b0.f6
 obtain ⟨c10,c11,c12,c13,c14,c15⟩:=L.tl.b0.a6
 (try go_wp2_with fail)
 refine (H1.out _ _ (isD_n (m:=m) (e:=e) (s:=.slice A (zl m) c) (L.getN (v:=.slice A (zl m) c) (x:=(m).natAbs) (by simp))) L.below).mono ?_
 rintro e w1 ⟨vv, rfl, id, be⟩
 clear c00 f00 c01 f01 c02 f02 c03 f03 c04 f04 c05 f05 c10 c11 c12 c13 c14 c15
 obtain ⟨A8, c8, rfl, _, in9⟩:=id.form
 replace L:=(L.step be).n in9
 clear be id in9
 have hlg:=L.b0.lt
 replace L:=L.varD w1.heap.size rfl (ng M) A8 (zl M) c8 E
 obtain ⟨c00,c01,c02⟩:=L.b0.a3
 obtain ⟨c20,c21,c22,c23,c24,c25⟩:=L.tl.tl.b0.a6
 go_wp2_with fail
 obtain ⟨g, hg⟩:=nm9 (w1.heap.size)
 rw [hg] at L hlg c00 c01 c02 ⊢
 clear hg
 refine (H2.out _ _ (isD_n (m:=n) (e:=f) (s:=.slice B (zl n) d) (L.getN (v:=.slice B (zl n) d) (x:=(n).natAbs) (by simp))) L.below).mono ?_
 rintro e w2 ⟨vv, rfl, id, be⟩
 clear c00 c01 c02 c20 c21 c22 c23 c24 c25
 obtain ⟨A9, c9, rfl, _, in9⟩:=id.form
 replace L:=(L.step be).n in9
 clear be id in9
 have hlk9:=L.b0.lt
 replace L:=L.varD w2.heap.size rfl (ng N) A9 (zl N) c9 G
 have n1 : w.heap.size + 1 ≠ g:=by omega
 have n2 : w.heap.size + 1 ≠ w2.heap.size:=by omega
 replace L:=L.pull2
 obtain ⟨c00,c01,c02,c03,c04,c05⟩:=L.b0.a6
 obtain ⟨f00,f01,f02,f03,f04,f05⟩:=L.b0.f6
 obtain ⟨c10,c11,c12⟩:=L.tl.b0.a3
 obtain ⟨c20,c21,c22⟩:=L.tl.tl.b0.a3
 go_wp2_with fail
 have LP:=L.putI (by omega) (by simp [n1, n2, Ne.symm n1, Ne.symm n2]) (ng M) A8 (zl M) c8 E (ng N) A9 (zl N) c9 G
 obtain ⟨k0,k1,k2,k3,k4,k5⟩:=LP.b0.a6
 unfold put6 at k0 k1 k2 k3 k4 k5
 exact bodyPost_ret (v:=.tuple #[.agg #[.bool (ng M), .slice A8 (zl M) c8, .int .i64 E, .bool (ng N), .slice A9 (zl N) c9, .int .i64 G], .int .i64 0]) (by simp [results, Tryz.results124, go_sem, k0, k1, k2, k3, k4, k5]) rfl ⟨_, rfl, isI_n (LP.getN (by simp)) (LP.getN (by simp)), LP.below⟩
def RowP (w : World) (v : Value) (l : List (Int × Nat × Int)) : Prop:=∃ g c, v = .slice (some ⟨g, 0, none⟩) l.length c ∧ g < w.heap.size ∧ ∀ (j : Nat) (x : Int × Nat × Int), l[j]? = some x → w.cell? ⟨g, 3 * j, none⟩ = some (.int .i64 x.1) ∧ w.cell? ⟨g, 3 * j + 1, none⟩ = some (.func (.func x.2.1) #[] #[]) ∧ w.cell? ⟨g, 3 * j + 2, none⟩ = some (.int .i64 x.2.2)
def ttl : List Int → Int → Int
 | [], s => s
 | c :: l, s => ttl l (s + c)
def SmI (cs : List Int) (u t : Nat) (s T : Int) : Prop:=AbP s (u + t) ∧ ttl (cs.drop t) s = T
theorem SmI.step {cs : List Int} {u t : Nat} {s T c : Int} (h : SmI cs u t s T) (hc : cs[t]? = some c) (hb : AbP c u) : SmI cs u (t + 1) (s + c) T:=by
 refine ⟨h.1.add (hb.up (by omega)), ?_⟩
 have h2:=h.2
 obtain ⟨hl, e⟩:=List.getElem?_eq_some_iff.1 hc
 rw [List.drop_eq_getElem_cons hl, e, ttl] at h2
 exact h2
theorem SmI.last {cs : List Int} {u : Nat} {s T : Int} (h : SmI cs u cs.length s T) : s = T:=by
 have h2:=h.2
 rw [List.drop_length, ttl] at h2
 exact h2
theorem lo_out (T : Int) (k : Nat) {m e : Int} (h : dq m e = dq (T - 262144) (-((k + 32 : Nat) : Int))) : cutQ (dq m e) (k : Int) = loC T:=by
 rw [h, cutD_down 32 (by omega)]
 rfl
theorem hi_out (T : Int) (k : Nat) {m e : Int} (h : dq m e = dq (T + 262144) (-((k + 32 : Nat) : Int))) : -(cutQ (-(dq m e)) (k : Int)) = hiC T:=by
 rw [h, ← dq_neg, cutD_down 32 (by omega)]
 rfl
theorem loC_abs {T : Int} {u : Nat} (h : AbP T u) (hu : 18 ≤ u) : AbP (loC T) (u + 1) ∧ AbP (hiC T) (u + 1):=by
 have e0 : (262144 : Int) = ((2 ^ 18 : Nat) : Int):=by decide
 have h1 : AbP 262144 u:=AbP.up (j:=18) (by unfold AbP; decide) hu
 have a1:=h.add h1.neg
 have a2:=h.add h1
 rw [← Int.sub_eq_add_neg] at a1
 unfold AbP at *
 unfold loC hiC cdv
 have x1 : ((T - 262144) / 4294967296).natAbs ≤ (T - 262144).natAbs:=Int.natAbs_ediv_le_natAbs _ _
 have x2 : (-(T + 262144) / 4294967296).natAbs ≤ (-(T + 262144)).natAbs:=Int.natAbs_ediv_le_natAbs _ _
 rw [Int.natAbs_neg] at x2 ⊢
 exact ⟨Nat.le_trans x1 a1, Nat.le_trans x2 a2⟩

theorem cencl_yes (k : Nat) (l : List (Int × Nat × Int)) (cs : List Int) (T : Int) (vl : Value) (w : World) (hk : k ≤ 4150) (hl : RowP w vl l) (hlen : cs.length = l.length) (hn : l.length ≤ 100) (hT : Tab w) (hb : ∀ c ∈ cs, AbP c 4850) (hsum : ttl cs 0 = T) (hf : ∀ (j : Nat) x c W, l[j]? = some x → cs[j]? = some c → Below w.heap.size w W → Calls Tryz.prog 159 #[.agg #[.int .i64 x.1, .func (.func x.2.1) #[] #[], .int .i64 x.2.2], .int .i64 ((k + 32 : Nat) : Int)] W (RetD8 W (mkM c 0) (mkE c 0))) :
    Calls Tryz.prog 93 #[.int .i64 (k : Int), vl] w (RetIE w (mkM (loC T) (-(k : Int))) (mkE (loC T) (-(k : Int))) (mkM (hiC T) (-(k : Int))) (mkE (hiC T) (-(k : Int))) 0):=by
  obtain ⟨g, c, rfl, hg, hrow⟩:=hl
  obtain ⟨q, hq⟩:=nm9 (k + 32)
  obtain ⟨n, hn2⟩:=nm9 (l.length)
  have hTb : AbP T 4950:=by
    have hx : ∀ (r : List Int) (s : Int) (u : Nat), (∀ c ∈ r, AbP c 4850) → AbP s (4850 + u) → AbP (ttl r s) (4850 + (u + r.length)):=fun r => by
      induction r with
      | nil => intro s u _ h; exact h
      | cons c r ih =>
        intro s u h1 h2
        rw [ttl]
        have:=ih (s + c) (u + 1) (fun x hx => h1 x (List.mem_cons_of_mem _ hx)) (h2.add ((h1 c mS).up (by omega)))
        rw [List.length_cons, show u + (r.length + 1) = u + 1 + r.length by omega]
        exact this
    have:=hx cs 0 0 hb (AbP.zero _)
    rw [hsum] at this
    exact this.up (by omega)
  obtain ⟨lb1, lb2⟩:=loC_abs hTb (by omega)
  have mb : AbP 262144 4950:=AbP.up (j:=18) (by unfold AbP; decide) (by omega)
  have HP0:=fun W => cperm_any (k : Int) W
  have hkb : okW (k : Int) = true:=by
    unfold okW
    rw [decide_eq_true (show (0 : Int) ≤ (k : Int) by omega), decide_eq_true (show (k : Int) ≤ 4224 by omega)]
    rfl
  rw [hkb] at HP0
  have hTT:=fun W (hW : Below w.heap.size w W) => hT.mono hW
  have g1:=fun W (hW : Below w.heap.size w W) => dof_any 1 W (by omega) (by omega) (hTT W hW)
  obtain ⟨u1, u2, u3⟩:=nf_up (k:=18) (by omega)
  obtain ⟨_, y2, y3, y4, _, _⟩:=nf (t:=1) (v:=0) (by unfold AbP; decide) (by omega)
  have g2:=fun x W h (hW : Below w.heap.size w W) => dshift_any (mkM 1 0) (mkE 1 0) 18 x W h (by omega) (by omega) (by omega) (hTT W hW)
  rw [show ((18 : Nat) : Int) = 18 from rfl] at u1 u2 u3
  rw [show (2 : Int) ^ 18 = 262144 from by decide] at u2 u3
  rw [u1, u2, u3] at g2
  obtain ⟨_, t2, t3, t4, _, _⟩:=nf hTb (by omega)
  obtain ⟨_, v2, v3, v4, _, _⟩:=nf mb (by omega)
  obtain ⟨a1, a2, a3⟩:=nf_sub hTb mb (by omega)
  obtain ⟨b1, b2, b3⟩:=nf_add hTb mb (by omega)
  have g3:=fun x y W h j (hW : Below w.heap.size w W) => dsub_any (mkM T 0) (mkE T 0) (mkM 262144 0) (mkE 262144 0) x y W h j (by omega) (by omega) (by omega) (by omega) (hTT W hW)
  rw [a1, a2, a3] at g3
  have g4:=fun x y W h j (hW : Below w.heap.size w W) => dadd_any (mkM T 0) (mkE T 0) (mkM 262144 0) (mkE 262144 0) x y W h j (by omega) (by omega) (by omega) (by omega) (hTT W hW)
  rw [b1, b2, b3] at g4
  have lob : AbP (T - 262144) 4951:=by rw [Int.sub_eq_add_neg]; exact hTb.add mb.neg
  have hib : AbP (T + 262144) 4951:=hTb.add mb
  obtain ⟨d1, d2, d3, d4, d5, d6⟩:=nf_down (k:=q) lob (by omega) (by omega)
  obtain ⟨e1, e2, e3, e4, e5, e6⟩:=nf_down (k:=q) hib (by omega) (by omega)
  obtain ⟨_, i2, i3, i4, _, _⟩:=nf lob (by omega)
  obtain ⟨_, j2, j3, j4, _, _⟩:=nf hib (by omega)
  have g5:=fun x W h (hW : Below w.heap.size w W) => dshift_any (mkM (T - 262144) 0) (mkE (T - 262144) 0) (-(q : Int)) x W h (by omega) (by omega) (by omega) (hTT W hW)
  have g6:=fun x W h (hW : Below w.heap.size w W) => dshift_any (mkM (T + 262144) 0) (mkE (T + 262144) 0) (-(q : Int)) x W h (by omega) (by omega) (by omega) (hTT W hW)
  rw [d1] at g5
  rw [e1] at g6
  rw [← hq] at d3 e3
  have lo1:=lo_out T k d3
  have hi1:=hi_out T k e3
  rw [hq] at lo1 hi1
  have z1:=(lb1).zl
  have z2:=(lb2).zl
  have hpk : permB (k : Int) = true:=by
    unfold permB
    rw [decide_eq_true (show (-2048 : Int) ≤ (k : Int) by omega), decide_eq_true (show (k : Int) ≤ 8192 by omega)]
    rfl
  have g7:=fun x W h (hW : Below w.heap.size w W) => i10out_yes (mkM (mkM (T - 262144) 0) (mkE (T - 262144) 0 + -(q : Int))) (mkE (mkM (T - 262144) 0) (mkE (T - 262144) 0 + -(q : Int))) (mkM (mkM (T + 262144) 0) (mkE (T + 262144) 0 + -(q : Int))) (mkE (mkM (T + 262144) 0) (mkE (T + 262144) 0 + -(q : Int))) (k : Int) x W h (by omega) (by omega) ⟨d5, d6⟩ ⟨e5, e6⟩ (by omega) (by omega) hpk (by rw [lo1]; exact mk_fits9 (by omega) (by omega) (by omega)) (by rw [hi1]; exact mk_fits9 (by omega) (by omega) (by omega)) (hTT W hW)
  rw [lo1, hi1] at g7
  clear lo1 hi1 d1 d2 d3 d4 d5 d6 e1 e2 e3 e4 e5 e6 u1 u2 u3 y2 y3 y4 t2 t3 t4 v2 v3 v4 a1 a2 a3 b1 b2 b3 i2 i3 i4 j2 j3 j4 lob hib lb1 lb2 z1 z2 hkb
  generalize mkM (loC T) (-(k : Int)) = Ma at *
  generalize mkE (loC T) (-(k : Int)) = Ea at *
  generalize mkM (hiC T) (-(k : Int)) = Na at *
  generalize mkE (hiC T) (-(k : Int)) = Fa at *
  generalize mkM (mkM (T - 262144) 0) (mkE (T - 262144) 0 + -(q : Int)) = Mb at *
  generalize mkE (mkM (T - 262144) 0) (mkE (T - 262144) 0 + -(q : Int)) = Eb at *
  generalize mkM (mkM (T + 262144) 0) (mkE (T + 262144) 0 + -(q : Int)) = Nb at *
  generalize mkE (mkM (T + 262144) 0) (mkE (T + 262144) 0 + -(q : Int)) = Fb at *
  generalize mkM (T - 262144) 0 = Mc at *
  generalize mkE (T - 262144) 0 = Ec at *
  generalize mkM (T + 262144) 0 = Nc at *
  generalize mkE (T + 262144) 0 = Fc at *
  generalize mkM 262144 0 = Mm at *
  generalize mkE 262144 0 = Em at *
  generalize mkM 1 0 = M1 at *
  generalize mkE 1 0 = E1 at *
  rw [hq] at hf
  rw [hn2] at hlen hn ⊢
  have w1 : IntKind.i64.wrap ((k : Int) + 32) = (q : Int):=by rw [IntKind.wrap_i64]; omega
  have w2 : IntKind.i64.wrap (-(q : Int)) = -(q : Int):=by rw [IntKind.wrap_i64]; omega
  have HRW:=Hd9 hrow
  have HB:=Hd9 hb
  have HN:=Hd9 (And.intro hn2 hlen)
  have HT:=Hd9 hTT
  have HF:=Hd9 hf
  have HP:=Hd9 HP0
  have HS:=Hd9 (show SmI cs 4850 0 0 T from ⟨AbP.zero _, hsum⟩)
  have G1:=Hd9 g1
  have G2:=Hd9 g2
  have G3:=Hd9 g3
  have G4:=Hd9 g4
  have G5:=Hd9 g5
  have G6:=Hd9 g6
  have G7:=Hd9 g7
  clear g1 g2 g3 g4 g5 g6 g7 hf hT hTT hb hsum HP0 hrow hpk hTb mb hq hn2 hlen
  go_enter Tryz.func93, Tryz.ntmps93
  have L:=((Lq.mk0 w).varI (w.heap.size) (by simp) false none 0 0 0 false none 0 0 0)
  (try go_wp2_with fail)
  refine (HP.out _).mono ?_
  rintro e9 w' ⟨rfl, rfl⟩
  replace L:=L.varD (w.heap.size + 1) (by simp) false none 0 0 0
  obtain ⟨c00,c01,c02⟩:=L.b0.a3
  obtain ⟨f00,f01,f02⟩:=L.b0.f3
  (try go_wp2_with fail)
  clear c00 f00 c01 f01 c02 f02
  go_loopw [25] (fun i wr => ∃ (t : Nat) (s N K : Int) (A2 : Option Addr) (c2 : Nat), i = .int .i64 (t : Int) ∧ t ≤ n ∧ Lq w wr [(.slice A2 (zl N) c2, N.natAbs)] [] [] [(w.heap.size + 1, 26, #[.bool (ng N), .slice A2 (zl N) c2, .int .i64 K]), (w.heap.size, 28, #[.bool false, .slice none 0 0, .int .i64 0, .bool false, .slice none 0 0, .int .i64 0])] ∧ Hid (SmI cs 4850 t s T ∧ mkM s 0 = N ∧ mkE s 0 = K)) (fun i _ => n - (intOf i).toNat)
  case atStart =>
    have zz : zl 0 = 0:=len_zero
    have LN:=L.n (v:=.slice none 0 0) (x:=0) (IsN.zero _)
    refine ⟨0, 0, 0, 0, none, 0, by go_num, by omega, ?_, Hd9 ⟨HS.out, nf00⟩⟩
    rw [zz]
    exact LN.subs (by simp) (by simp [ng])
  case round =>
    clear L HS
    obtain ⟨t, s, N, K, A2, c2, rfl, ht, L, HS⟩:=hrel
    rcases Nat.eq_or_lt_of_le ht with rfl | ht3
    · obtain ⟨hI, hN, hK⟩:=HS.out
      rw [show t = cs.length from HN.out.2.symm] at hI
      obtain rfl:=hI.last
      have G3':=G3.out
      have G4':=G4.out
      rw [hN, hK] at G3' G4'
      have G8:=Hd9 G3'
      have G9:=Hd9 G4'
      clear G3' G4' hI hN hK HS G3 G4 HB HF HRW
      have hl1:=L.b0.lt
      obtain ⟨c00,c01,c02⟩:=L.b0.a3
      (try go_wp2_with fail)
      refine (G1.out _ L.below).mono ?_
      rintro e w41 ⟨v1, rfl, id, be⟩
      clear c00 c01 c02
      replace L:=L.step be
      clear be
      (try go_wp2_with fail)
      refine (G2.out _ _ id L.below).mono ?_
      rintro e w42 ⟨v2, rfl, iz, be⟩
      obtain ⟨A3, c3, rfl, _, in9⟩:=iz.form
      replace L:=(L.step be).n in9
      clear be iz in9 id
      have hl3:=L.b0.lt
      replace L:=L.varD w42.heap.size rfl (ng Mm) A3 (zl Mm) c3 Em
      obtain ⟨c00,c01,c02⟩:=L.b0.a3
      obtain ⟨c10,c11,c12⟩:=L.tl.b0.a3
      go_wp2_with fail
      clear c00 c01 c02 c10 c11 c12
      obtain ⟨gm, hgm⟩:=nm9 (w42.heap.size)
      rw [hgm] at L hl3 ⊢
      clear hgm
      refine (G8.out _ _ _ (isD_n (m:=N) (e:=K) (s:=.slice A2 (zl N) c2) (L.getN (by simp))) (isD_n (m:=Mm) (e:=Em) (s:=.slice A3 (zl Mm) c3) (L.getN (by simp))) L.below).mono ?_
      rintro e w43 ⟨v2, rfl, iz, be⟩
      obtain ⟨A4, c4, rfl, _, in9⟩:=iz.form
      replace L:=(L.step be).n in9
      clear be iz in9
      have hl4:=L.b0.lt
      replace L:=L.varD w43.heap.size rfl (ng Mc) A4 (zl Mc) c4 Ec
      obtain ⟨c00,c01,c02⟩:=L.b0.a3
      obtain ⟨c10,c11,c12⟩:=L.tl.b0.a3
      obtain ⟨c20,c21,c22⟩:=L.tl.tl.b0.a3
      go_wp2_with fail
      clear c00 c01 c02 c10 c11 c12 c20 c21 c22
      obtain ⟨gl, hgl⟩:=nm9 (w43.heap.size)
      rw [hgl] at L hl4 ⊢
      clear hgl
      refine (G9.out _ _ _ (isD_n (m:=N) (e:=K) (s:=.slice A2 (zl N) c2) (L.getN (by simp))) (isD_n (m:=Mm) (e:=Em) (s:=.slice A3 (zl Mm) c3) (L.getN (by simp))) L.below).mono ?_
      rintro e w44 ⟨v2, rfl, iz, be⟩
      obtain ⟨A5, c5, rfl, _, in9⟩:=iz.form
      replace L:=(L.step be).n in9
      clear be iz in9
      have hl5:=L.b0.lt
      replace L:=L.varD w44.heap.size rfl (ng Nc) A5 (zl Nc) c5 Fc
      obtain ⟨c00,c01,c02⟩:=L.b0.a3
      obtain ⟨c10,c11,c12⟩:=L.tl.b0.a3
      go_wp2_with fail
      clear c00 c01 c02 c10 c11 c12
      obtain ⟨gh, hgh⟩:=nm9 (w44.heap.size)
      rw [hgh] at L hl5 ⊢
      clear hgh
      refine (G5.out _ _ (isD_n (m:=Mc) (e:=Ec) (s:=.slice A4 (zl Mc) c4) (L.getN (by simp))) L.below).mono ?_
      rintro e w45 ⟨v2, rfl, iz, be⟩
      obtain ⟨A6, c6, rfl, _, in9⟩:=iz.form
      replace L:=(L.step be).n in9
      clear be iz in9
      have L4:=L.subs (ns':=[(.slice A6 (zl Mb) c6, Mb.natAbs), (.slice A5 (zl Nc) c5, Nc.natAbs)]) (bs':=[(gl, 26, #[.bool (ng Mc), .slice A4 (zl Mc) c4, .int .i64 Ec]), (gh, 26, #[.bool (ng Nc), .slice A5 (zl Nc) c5, .int .i64 Fc]), (w.heap.size, 28, #[.bool false, .slice none 0 0, .int .i64 0, .bool false, .slice none 0 0, .int .i64 0])]) (by simp) (by simp)
      clear L
      have L:=L4
      clear L4
      have n1 : gl ≠ gh:=by omega
      have n2 : w.heap.size ≠ gh:=by omega
      have n3 : w.heap.size ≠ gl:=by omega
      obtain ⟨c00,c01,c02⟩:=L.b0.a3
      obtain ⟨f00,f01,f02⟩:=L.b0.f3
      obtain ⟨c10,c11,c12⟩:=L.tl.b0.a3
      have P:=L.putD (by omega) (by simp [n1, n2, n3, Ne.symm n1, Ne.symm n2, Ne.symm n3]) (ng Mb) A6 (zl Mb) c6 Eb
      obtain ⟨p0,p1,p2⟩:=P.tl.b0.a3
      unfold put3 at p0 p1 p2 P
      go_wp2_with fail
      replace L:=P
      clear P p0 p1 p2
      clear c00 f00 c01 f01 c02 f02 c10 c11 c12
      refine (G6.out _ _ (isD_n (m:=Nc) (e:=Fc) (s:=.slice A5 (zl Nc) c5) (L.getN (by simp))) L.below).mono ?_
      rintro e w46 ⟨v2, rfl, iz, be⟩
      obtain ⟨A7, c7, rfl, _, in9⟩:=iz.form
      replace L:=(L.step be).n in9
      clear be iz in9
      replace L:=L.swap
      obtain ⟨c00,c01,c02⟩:=L.b0.a3
      obtain ⟨f00,f01,f02⟩:=L.b0.f3
      obtain ⟨c10,c11,c12⟩:=L.tl.b0.a3
      have P:=L.putD (by omega) (by simp [n1, n2, n3, Ne.symm n1, Ne.symm n2, Ne.symm n3]) (ng Nb) A7 (zl Nb) c7 Fb
      obtain ⟨p0,p1,p2⟩:=P.tl.b0.a3
      obtain ⟨p3,p4,p5⟩:=P.b0.a3
      unfold put3 at p0 p1 p2 p3 p4 p5 P
      go_wp2_with fail
      replace L:=P
      clear P p0 p1 p2 p3 p4 p5
      clear c00 f00 c01 f01 c02 f02 c10 c11 c12
      refine (G7.out _ _ (isI_n (m:=Mb) (e:=Eb) (n:=Nb) (f:=Fb) (s:=.slice A6 (zl Mb) c6) (t:=.slice A7 (zl Nb) c7) (L.getN (by simp)) (L.getN (by simp))) L.below).mono ?_
      rintro e w47 ⟨v2, rfl, ii, be⟩
      obtain ⟨A8, c8, B8, d8, rfl, ia, ib⟩:=ii.form
      replace L:=(((L.step be).n ib).n ia).pull2
      clear be ii ia ib
      obtain ⟨c00,c01,c02,c03,c04,c05⟩:=L.b0.a6
      obtain ⟨f00,f01,f02,f03,f04,f05⟩:=L.b0.f6
      go_wp2_with fail
      have LP:=L.putI (by omega) (by simp [n2, n3, Ne.symm n2, Ne.symm n3]) (ng Ma) A8 (zl Ma) c8 Ea (ng Na) B8 (zl Na) d8 Fa
      obtain ⟨k0,k1,k2,k3,k4,k5⟩:=LP.b0.a6
      unfold put6 at k0 k1 k2 k3 k4 k5
      exact bodyPost_ret (v:=.tuple #[.agg #[.bool (ng Ma), .slice A8 (zl Ma) c8, .int .i64 Ea, .bool (ng Na), .slice B8 (zl Na) d8, .int .i64 Fa], .int .i64 0]) (by simp [results, Tryz.results93, go_sem, k0, k1, k2, k3, k4, k5]) rfl ⟨_, rfl, isI_n (LP.getN (by simp)) (LP.getN (by simp)), LP.below⟩
    · obtain ⟨x, hx⟩ : ∃ x, l[t]? = some x:=⟨_, List.getElem?_eq_getElem (by rw [HN.out.1]; exact ht3)⟩
      obtain ⟨cc, hcc⟩ : ∃ x, cs[t]? = some x:=⟨_, List.getElem?_eq_getElem (by rw [HN.out.2]; exact ht3)⟩
      obtain ⟨e0, e1, e2⟩:=HRW.out t x hx
      replace e0:=(L.below.cell (p:=⟨g, 3 * t, none⟩) hg).trans e0
      replace e1:=(L.below.cell (p:=⟨g, 3 * t + 1, none⟩) hg).trans e1
      replace e2:=(L.below.cell (p:=⟨g, 3 * t + 2, none⟩) hg).trans e2
      rw [Nat.mul_comm 3 t] at e0 e1 e2
      obtain ⟨hI, hN, hK⟩:=HS.out
      have hcb:=HB.out _ (List.mem_of_getElem? hcc)
      have hI2:=hI.step hcc hcb
      have o1:=fun W hW => HF.out t x cc W hx hcc hW
      obtain ⟨a1, a2, a3⟩:=nf_add hI.1 (hcb.up (show 4850 ≤ 4850 + t by omega)) (by omega)
      obtain ⟨_, b2, b3, b4, _, _⟩:=nf hI.1 (by omega)
      obtain ⟨_, d2, d3, d4, _, _⟩:=nf hcb (by omega)
      have o2:=fun x y W h j (hW : Below w.heap.size w W) => dadd_any (mkM s 0) (mkE s 0) (mkM cc 0) (mkE cc 0) x y W h j (by omega) (by omega) (by omega) (by omega) (HT.out W hW)
      rw [a1, a2, a3] at o2
      clear a1 a2 a3 b2 b3 b4 d2 d3 d4 hcb hI hcc hx
      obtain ⟨s2, hs2⟩:=nm9 (s + cc)
      rw [hs2] at o2 hI2
      rw [hN, hK] at o2
      obtain ⟨N2, hN2⟩:=nm9 (mkM s2 0)
      obtain ⟨K2, hK2⟩:=nm9 (mkE s2 0)
      rw [hN2, hK2] at o2
      generalize mkM cc 0 = Mx at *
      generalize mkE cc 0 = Ex at *
      have HR:=Hd9 (And.intro hI2 (And.intro hN2 hK2))
      have O1:=Hd9 o1
      have O2:=Hd9 o2
      obtain ⟨xa, xF, xn⟩:=x
      dsimp only at e0 e1 e2 O1
      have hlt : (t : Int) < (n : Int):=by omega
      have ht0 : (0 : Int) ≤ (t : Int):=by omega
      have w3 : IntKind.i64.wrap ((t : Int) + 1) = (t : Int) + 1:=by rw [IntKind.wrap_i64]; omega
      have hl1:=L.b0.lt
      have hsf:=fun (a : Addr) (W : World) => run_store Tryz.prog W a (.func (.func xF) #[] #[]) .plain rfl
      clear o1 o2 hI2 hN2 hK2 hN hK hs2 HS
      replace L:=L.varP wr.heap.size rfl xa xF xn
      obtain ⟨cel00,cel01,cel02⟩:=L.b0.a3
      obtain ⟨cel10,cel11,cel12⟩:=L.tl.b0.a3
      go_wp2_with fail
      clear cel00 cel01 cel02 cel10 cel11 cel12
      obtain ⟨gx, hgx⟩:=nm9 (wr.heap.size)
      rw [hgx] at L hl1 ⊢
      clear hgx e0 e1 e2
      have n1 : w.heap.size + 1 ≠ gx:=by omega
      obtain ⟨cel00,cel01,cel02⟩:=L.b0.a3
      obtain ⟨cel10,cel11,cel12⟩:=L.tl.b0.a3
      (try go_wp2_with fail)
      replace L:=L.drew.swap
      clear cel00 cel01 cel02 cel10 cel11 cel12
      obtain ⟨cel00,cel01,cel02⟩:=L.b0.a3
      obtain ⟨f00,f01,f02⟩:=L.b0.f3
      obtain ⟨cel10,cel11,cel12⟩:=L.tl.b0.a3
      go_region_with (first | (go_at_call 159; (with_reducible refine (O1.out _ ?_ ).mono ?_); (· exact L.below); rintro e9 wh ⟨vh, rfl, id, be⟩; obtain ⟨A4, c4, rfl, _, in9⟩:=id.form; replace L:=(L.step be).n in9; clear be id in9; (try (obtain ⟨xx00,xx01,xx02⟩:=L.b0.a3; obtain ⟨yy00,yy01,yy02⟩:=L.b0.f3)); (try (obtain ⟨xx10,xx11,xx12⟩:=L.tl.b0.a3))) | (go_at_call 89; (with_reducible refine (O2.out _ _ _ ?_ ?_ ?_ ).mono ?_); (· (refine isD_n (L.getN ?_); (repeat (first | (with_reducible exact mS) | apply mT)))); (· (refine isD_n (L.getN ?_); (repeat (first | (with_reducible exact mS) | apply mT)))); (· exact L.below); rintro e9 wh ⟨vh, rfl, id, be⟩; obtain ⟨A5, c5, rfl, _, in9⟩:=id.form; replace L:=(L.step be).n in9; clear be id in9; (try (obtain ⟨xx00,xx01,xx02⟩:=L.b0.a3; obtain ⟨yy00,yy01,yy02⟩:=L.b0.f3)); (try (obtain ⟨xx10,xx11,xx12⟩:=L.tl.b0.a3))))
      all_goals
        clear cel00 f00 cel01 f01 cel02 f02 cel10 cel11 cel12
        have P:=L.putD (by omega) (by simp [n1, Ne.symm n1]) (ng N2) A5 (zl N2) c5 K2
        unfold put3 at P
        go_wp2_with fail
        replace L:=P
        clear P
        go_roundw
        case rel => exact ⟨t + 1, s2, N2, K2, A5, c5, by go_num, by omega, L.subs (by simp) (by simp), HR⟩
        case measure => simp [intOf]; omega

theorem dq_up9 (C : Int) {k F : Nat} (h : k ≤ F) : dq C (-(k : Int)) = dq (C * 2 ^ (F - k)) (-(F : Int)):=by
 refine dq_eq (F := -(F : Int)) ?_ (by omega) (by omega)
 rw [show (-(k : Int) - -(F : Int)).toNat = F - k by omega, show (-(F : Int) - -(F : Int)).toNat = 0 by omega]
 simp
theorem dq_hn (C : Int) (k : Nat) : dq C (-(k : Int)) = (C : Rat) * hn k:=by
  have one : ∀ k : Nat, dq 1 (-(k : Int)) = hn k:=fun k => by
    induction k with
    | zero => decide +kernel
    | succ k ih =>
      have h:=dq_half (k : Int)
      rw [ih] at h
      rw [show -((k + 1 : Nat) : Int) = -((k : Int) + 1) by omega, hn_succ]
      grind
  rw [dq_scale, one]
theorem pi_dq : dq cPi (-500) = piQ:=by
 have:=dq_hn cPi 500
 rw [show -((500 : Nat) : Int) = -500 from rfl] at this
 exact this
theorem two_hP : 2 * hP = piQ:=by unfold hP; have : piQ / 2 * 2 = piQ:=Rat.div_mul_cancel (by decide); grind
theorem pi_in {k : Nat} (hk : k < 400) : ∃ T, piT (k + 32) = some T ∧ dq (loC T) (-(k : Int)) ≤ piQ ∧ piQ ≤ dq (hiC T) (-(k : Int)) ∧ loC T ≤ hiC T ∧ hiC T ≤ loC T + 2:=by
  have h:=List.all_eq_true.1 pi_all k (List.mem_range.2 hk)
  cases hT : piT (k + 32) with
  | none => rw [hT] at h; exact absurd h (by simp [inP])
  | some T =>
    rw [hT] at h
    unfold inP at h
    simp only [Bool.and_eq_true, decide_eq_true_eq] at h
    refine ⟨T, rfl, ?_, ?_, ?_, ?_⟩
    · rw [dq_up9 (loC T) (show k ≤ 500 by omega), ← pi_dq]
      exact (dq_le_iff _ _ _).2 h.1
    · rw [dq_up9 (hiC T) (show k ≤ 500 by omega), ← pi_dq]
      exact (dq_le_iff _ _ _).2 h.2
    · unfold loC hiC cdv; omega
    · unfold loC hiC cdv; omega
theorem piQ_b : 3 ≤ piQ ∧ piQ ≤ 33 / 10:=by
 have a:=hP_ab.2
 have b:=two_hP
 unfold Ab at a
 have c : (2 : Rat) * (1 / 20) = 1 / 10:=by decide +kernel
 have d : (2 : Rat) * (8 / 5) = 16 / 5:=by decide +kernel
 have e : (16 : Rat) / 5 + 1 / 10 = 33 / 10:=by decide +kernel
 have f : (3 : Rat) ≤ 16 / 5 - 1 / 10:=by decide +kernel
 constructor <;> grind
def rdP1 (T : Int) (P : Nat) : Int:=cutQ (dq (loC T) (-(P : Int))) 64
def rdP2 (T : Int) (P : Nat) : Int := -(cutQ (-(dq (hiC T) (-(P : Int)))) 64)
def rdC (x : Rat) (T : Int) (P : Nat) : Int:=cutQ (min4 (x / dq (rdP1 T P) (-64)) (x / dq (rdP2 T P) (-64)) (x / dq (rdP1 T P) (-64)) (x / dq (rdP2 T P) (-64))) 64
def rdK (x : Rat) (T : Int) (P : Nat) : Int:=(cutQ (dq (rdC x T P) (-64)) 1 + 1) / 2
theorem near_pi {T : Int} {P : Nat} (hP4 : 44 ≤ P) (h1 : dq (loC T) (-(P : Int)) ≤ piQ) (h2 : piQ ≤ dq (hiC T) (-(P : Int))) (h3 : hiC T ≤ loC T + 2) :
  Ab (dq (rdP1 T P) (-64) - piQ) (hn 42) ∧ Ab (dq (rdP2 T P) (-64) - piQ) (hn 42) ∧ dq (rdP1 T P) (-64) ≤ dq (rdP2 T P) (-64):=by
 have w : dq (hiC T) (-(P : Int)) ≤ dq (loC T) (-(P : Int)) + 2 * hn P:=by
  rw [dq_hn, dq_hn]
  have:=int_mul_hn P h3
  rw [Rat.intCast_add, show ((2 : Int) : Rat) = 2 from rfl] at this
  grind
 have a1:=cut_lo (dq (loC T) (-(P : Int))) 64
 have a2:=cut_hi (dq (loC T) (-(P : Int))) 64
 have b1:=cut_lo (-(dq (hiC T) (-(P : Int)))) 64
 have b2:=cut_hi (-(dq (hiC T) (-(P : Int)))) 64
 have u : dq 1 (-64) = hn 64:=by have:=dq_hn 1 64; rw [show ((1 : Int) : Rat) = 1 from rfl, Rat.one_mul] at this; exact this
 rw [u] at a2 b2
 have e1:=hn_le (show 44 ≤ 64 by omega)
 have e2:=hn_le hP4
 have e3 : hn 42 = 4 * hn 44:=by
  have h1 : hn 43 = hn 42 / 2:=hn_succ 42
  have h2 : hn 44 = hn 43 / 2:=hn_succ 43
  grind
 unfold rdP1 rdP2
 rw [dq_neg]
 unfold Ab
 refine ⟨?_, ?_, ?_⟩
 ·constructor <;> grind
 ·constructor <;> grind
 ·grind
theorem rd_near {d : Rat} {T : Int} {P : Nat} (hP4 : 44 ≤ P) (h1 : dq (loC T) (-(P : Int)) ≤ piQ) (h2 : piQ ≤ dq (hiC T) (-(P : Int))) (h3 : hiC T ≤ loC T + 2) (hd : Ab d 4294967296) :
  Ab (d - (rdK (2 * d) T P : Rat) * hP) (9 / 10) ∧ (-4294967295 ≤ rdK (2 * d) T P ∧ rdK (2 * d) T P ≤ 4294967295) ∧ Ab (dq (rdC (2 * d) T P) (-64)) 2900000000:=by
 obtain ⟨n1, n2, _⟩:=near_pi hP4 h1 h2 h3
 have pb:=piQ_b
 have tp:=two_hP
 have sm : 1000000000 * hn 42 ≤ 1 / 1000:=by decide +kernel
 have sm2 : 2863311531 * hn 42 ≤ 1 / 1000:=by decide +kernel
 have hp42:=hn_pos 42
 -- the quotient
 obtain ⟨π, hπ, hq⟩ : ∃ π, Ab (π - piQ) (hn 42) ∧ min4 (2 * d / dq (rdP1 T P) (-64)) (2 * d / dq (rdP2 T P) (-64)) (2 * d / dq (rdP1 T P) (-64)) (2 * d / dq (rdP2 T P) (-64)) = 2 * d / π:=by
  rcases min4_or (2 * d / dq (rdP1 T P) (-64)) (2 * d / dq (rdP2 T P) (-64)) (2 * d / dq (rdP1 T P) (-64)) (2 * d / dq (rdP2 T P) (-64)) with h | h | h | h
  ·exact ⟨_, n1, h⟩
  ·exact ⟨_, n2, h⟩
  ·exact ⟨_, n1, h⟩
  ·exact ⟨_, n2, h⟩
 have hC : rdC (2 * d) T P = cutQ (2 * d / π) 64:=by unfold rdC; rw [hq]
 have hK : rdK (2 * d) T P = (cutQ (dq (cutQ (2 * d / π) 64) (-64)) 1 + 1) / 2:=by unfold rdK; rw [hC]
 rw [hK, hC]
 have hpi : 0 < π:=by
  unfold Ab at hπ
  grind
 have hqm : 2 * d / π * π = 2 * d:=Rat.div_mul_cancel (by grind)
 generalize 2 * d / π = q at *
 have pi3 : 3 - hn 42 ≤ π:=by unfold Ab at hπ; grind
 have q1 : Ab q 2863311531:=by
  unfold Ab at *
  constructor
  ·refine le_of_mul hpi ?_
   rw [hqm]
   grind
  ·refine le_of_mul hpi ?_
   rw [hqm]
   grind
 have qe : Ab (q * (π - piQ)) (2863311531 * hn 42):=q1.mul hπ
 have c1:=cut_lo q 64
 have c2:=cut_hi q 64
 have u : dq 1 (-64) = hn 64:=by have:=dq_hn 1 64; rw [show ((1 : Int) : Rat) = 1 from rfl, Rat.one_mul] at this; exact this
 rw [u] at c2
 have e64:=hn_le (show 42 ≤ 64 by omega)
 have p64:=hn_pos 64
 generalize dq (cutQ q 64) (-64) = L at *
 have f1:=cut_lo L 1
 have f2:=cut_hi L 1
 have u1 : dq 1 (-1) = 1 / 2:=by decide +kernel
 have uf : dq (cutQ L 1) (-1) = (cutQ L 1 : Rat) * (1 / 2):=by rw [dq_scale, u1]
 rw [u1, uf] at f2
 rw [uf] at f1
 generalize cutQ L 1 = F at *
 obtain ⟨K, hKe⟩:=nm9 ((F + 1) / 2)
 rw [hKe]
 have k1:=Rat.intCast_le_intCast.2 (show F ≤ 2 * K by omega)
 have k2:=Rat.intCast_le_intCast.2 (show 2 * K ≤ F + 1 by omega)
 rw [Rat.intCast_mul, show ((2 : Int) : Rat) = 2 from rfl] at k1 k2
 rw [Rat.intCast_add, show ((1 : Int) : Rat) = 1 from rfl] at k2
 have half : (2 : Rat) * (1 / 2) = 1:=by decide +kernel
 have kq : Ab ((K : Rat) - q) (1 / 2 + hn 64):=by
  unfold Ab
  constructor <;> grind
 have kp:=kq.mul (show Ab piQ (33 / 10) by unfold Ab; grind)
 have num : (1 / 2 + hn 64) * (33 / 10) + 2863311531 * hn 42 ≤ 2 * (9 / 10):=by decide +kernel
 have s:=qe.add kp
 refine ⟨?_, ?_, ?_⟩
 ·have e2 : 2 * (d - (K : Rat) * hP) = q * (π - piQ) - (K - q) * piQ:=by rw [← tp] at *; grind
  have s2:=(qe.sub kp)
  rw [← e2] at s2
  have s3:=s2.le (c:=2 * (9 / 10)) (by grind)
  unfold Ab at *
  constructor <;> grind
 ·unfold Ab at kq q1
  have e3 : (2863311531 : Rat) + (1 / 2 + hn 64) ≤ 4294967295:=by decide +kernel
  constructor
  ·refine Rat.intCast_le_intCast.1 ?_
   rw [show ((-4294967295 : Int) : Rat) = -4294967295 from rfl]
   grind
  ·refine Rat.intCast_le_intCast.1 ?_
   rw [show ((4294967295 : Int) : Rat) = 4294967295 from rfl]
   grind
 ·have e3 : (2863311531 : Rat) + hn 42 ≤ 2900000000:=by decide +kernel
  unfold Ab at *
  constructor <;> grind
def rdX (d : Rat) (K c : Int) (P : Nat) : Rat:=d - dq K (-1) * dq c (-(P : Int))
def rdA (d : Rat) (T : Int) (P p : Nat) : Int:=cutQ (rmin (rdX d (rdK (2 * d) T P) (loC T) P) (rdX d (rdK (2 * d) T P) (hiC T) P)) (p : Int)
def rdB (d : Rat) (T : Int) (P p : Nat) : Int := -(cutQ (-(rmax (rdX d (rdK (2 * d) T P) (loC T) P) (rdX d (rdK (2 * d) T P) (hiC T) P))) (p : Int))
structure RdO (p : Nat) (d : Rat) (K A B : Int) : Prop where
 dir : Dir p d K A
 up : d - (K : Rat) * hP ≤ (B : Rat) * hn p
 le : A ≤ B
 wd : B ≤ A + 2
 ab : A.natAbs ≤ 2 ^ p ∧ B.natAbs ≤ 2 ^ p
 kb : -4294967295 ≤ K ∧ K ≤ 4294967295
theorem rd_ok {d : Rat} {T : Int} {P p : Nat} (hPp : P = p + 32) (hp : 12 ≤ p) (h1 : dq (loC T) (-(P : Int)) ≤ piQ) (h2 : piQ ≤ dq (hiC T) (-(P : Int))) (h3 : hiC T ≤ loC T + 2) (hd : Ab d 4294967296) :
  RdO p d (rdK (2 * d) T P) (rdA d T P p) (rdB d T P p):=by
 obtain ⟨n1, n2, _⟩:=rd_near (show 44 ≤ P by omega) h1 h2 h3 hd
 have tp:=two_hP
 have pb:=piQ_b
 have hu:=hn_pos p
 have o:=pow_hn p
 have u12:=hn_le hp
 have s12 : 1000 * hn 12 ≤ 1:=by decide +kernel
 unfold rdA rdB
 generalize rdK (2 * d) T P = K at *
 have dk : dq K (-1) = (K : Rat) * (1 / 2):=by rw [dq_scale, show dq 1 (-1) = 1 / 2 by decide +kernel]
 have half : (2 : Rat) * (1 / 2) = 1:=by decide +kernel
 have w : dq (hiC T) (-(P : Int)) ≤ dq (loC T) (-(P : Int)) + 2 * hn P:=by
  rw [dq_hn, dq_hn]
  have:=int_mul_hn P h3
  rw [Rat.intCast_add, show ((2 : Int) : Rat) = 2 from rfl] at this
  grind
 have e32 : 4294967296 * hn P = hn p:=by
  rw [hPp]
  have:=hn_up p 32
  rw [this]; norm_cast
 have kr : Ab (K : Rat) 4294967296:=by
  have a:=Rat.intCast_le_intCast.2 (show -4294967296 ≤ K by omega)
  have b:=Rat.intCast_le_intCast.2 (show K ≤ 4294967296 by omega)
  exact ⟨a, b⟩
 unfold rdX
 rw [dk]
 generalize dq (loC T) (-(P : Int)) = lo at *
 generalize dq (hiC T) (-(P : Int)) = hi at *
 have m1:=kr.mul (show Ab (piQ - lo) (2 * hn P) by unfold Ab; grind)
 have m2:=kr.mul (show Ab (hi - piQ) (2 * hn P) by unfold Ab; grind)
 have m3:=kr.mul (show Ab (hi - lo) (2 * hn P) by unfold Ab; grind)
 have e2 : 4294967296 * (2 * hn P) = 2 * hn p:=by grind
 rw [e2] at m1 m2 m3
 obtain ⟨x1, hx1⟩:=nm9 (d - (K : Rat) * (1 / 2) * lo)
 obtain ⟨x2, hx2⟩:=nm9 (d - (K : Rat) * (1 / 2) * hi)
 obtain ⟨r, hr⟩:=nm9 (d - (K : Rat) * hP)
 rw [hx1, hx2]
 rw [hr] at n1
 have d12 : Ab (x1 - x2) (hn p):=by
  have : 2 * (x1 - x2) = (K : Rat) * (hi - lo):=by rw [← hx1, ← hx2]; grind
  unfold Ab at *; constructor <;> grind
 have dr1 : 2 * (x1 - r) = (K : Rat) * (piQ - lo):=by rw [← hx1, ← hr, ← tp]; grind
 have dr2 : 2 * (r - x2) = (K : Rat) * (hi - piQ):=by rw [← hx2, ← hr, ← tp]; grind
 have bt : (x1 ≤ r ∧ r ≤ x2) ∨ (x2 ≤ r ∧ r ≤ x1):=by
  rcases Int.le_total 0 K with hk | hk
  ·right
   have k0:=Rat.intCast_le_intCast.2 hk
   rw [show ((0 : Int) : Rat) = 0 from rfl] at k0
   have a:=Rat.mul_nonneg k0 (show 0 ≤ piQ - lo by grind)
   have b:=Rat.mul_nonneg k0 (show 0 ≤ hi - piQ by grind)
   constructor <;> grind
  ·left
   have k0:=Rat.intCast_le_intCast.2 (show 0 ≤ -K by omega)
   rw [show ((0 : Int) : Rat) = 0 from rfl, Rat.intCast_neg] at k0
   have a:=Rat.mul_nonneg k0 (show 0 ≤ piQ - lo by grind)
   have b:=Rat.mul_nonneg k0 (show 0 ≤ hi - piQ by grind)
   constructor <;> grind
 obtain ⟨mi, hmi⟩:=nm9 (rmin x1 x2)
 obtain ⟨ma, hma⟩:=nm9 (rmax x1 x2)
 rw [hmi, hma]
 have b3 : mi ≤ r ∧ r ≤ ma ∧ ma - mi ≤ hn p:=by
  unfold rmin at hmi
  unfold rmax at hma
  unfold Ab at d12
  split at hmi <;> split at hma <;> grind
 have a1:=cut_lo mi (p : Int)
 have a2:=cut_hi mi (p : Int)
 have c1:=cut_lo (-ma) (p : Int)
 have c2:=cut_hi (-ma) (p : Int)
 have u : dq 1 (-(p : Int)) = hn p:=by have:=dq_hn 1 p; rw [show ((1 : Int) : Rat) = 1 from rfl, Rat.one_mul] at this; exact this
 rw [dq_hn, u] at a2 c2
 rw [dq_hn] at a1 c1
 generalize cutQ mi (p : Int) = A at *
 generalize cutQ (-ma) (p : Int) = B at *
 have cB : ((-B : Int) : Rat) * hn p = -((B : Rat) * hn p):=by rw [Rat.intCast_neg]; grind
 have ab : A ≤ -B:=int_of_hn p (by rw [cB]; grind)
 have wd : -B < A + 3:=by
  refine Rat.intCast_lt_intCast.1 (Rat.not_le.1 fun hle => ?_)
  have:=Rat.mul_le_mul_of_nonneg_right hle (Rat.le_of_lt hu)
  rw [cB, Rat.intCast_add, show ((3 : Int) : Rat) = 3 from rfl] at this
  grind
 have e9 : (9 : Rat) / 10 + 2 / 1000 ≤ 1:=by decide +kernel
 have A1 : -(2 ^ p) ≤ A:=int_of_hn p (by rw [Rat.intCast_neg, show -(((2 : Int) ^ p : Int) : Rat) * hn p = -((((2 : Int) ^ p : Int) : Rat) * hn p) by grind, o]; unfold Ab at n1; grind)
 have B1 : -B ≤ 2 ^ p:=int_of_hn p (by rw [cB, o]; unfold Ab at n1; grind)
 have ep : ((2 ^ p : Nat) : Int) = 2 ^ p:=by push_cast; rfl
 refine ⟨⟨by omega, by rw [hr]; grind, by rw [hr]; grind, by rw [hr]; exact n1⟩, by rw [cB]; grind, ab, by omega, ⟨by omega, by omega⟩, n2⟩
theorem lst_min (m e n f : Int) : dq (lstD m e n f).1 (lstD m e n f).2 = rmin (dq m e) (dq n f):=by
 have h:=lstD_le m e n f
 unfold rmin
 rcases lstD_or m e n f with g | g <;> rw [g] at h ⊢ <;> split <;> grind
theorem gst_max (m e n f : Int) : dq (gstD m e n f).1 (gstD m e n f).2 = rmax (dq m e) (dq n f):=by
 have h:=gstD_le m e n f
 unfold rmax
 rcases gstD_or m e n f with g | g <;> rw [g] at h ⊢ <;> split <;> grind

theorem plainP2 (a0 : Int) (F0 : Nat) (n0 : Int) (a1 : Int) (F1 : Nat) (n1 : Int) : Plain #[.int .i64 a0, .func (.func F0) #[] #[], .int .i64 n0, .int .i64 a1, .func (.func F1) #[] #[], .int .i64 n1]:=fun j x => by
 match j with
 | 0 => simp
 | 1 => simp
 | 2 => simp
 | 3 => simp
 | 4 => simp
 | 5 => simp
 | j + 6 => simp
theorem rowP_2 {w : World} {g : Nat} {a0 : Int} {F0 : Nat} {n0 : Int} {a1 : Int} {F1 : Nat} {n1 : Int} (hv : Var w g 113 #[.int .i64 a0, .func (.func F0) #[] #[], .int .i64 n0, .int .i64 a1, .func (.func F1) #[] #[], .int .i64 n1]) : RowP w (.slice (some ⟨g, 0, none⟩) 2 2) [(a0, F0, n0), (a1, F1, n1)]:=by
  refine ⟨g, 2, rfl, hv.lt, fun j x hx => ?_⟩
  match j with
  | 0 =>
    obtain rfl : (a0, F0, n0) = x:=by simpa using hx
    exact ⟨hv.cell 0, hv.cell 1, hv.cell 2⟩
  | 1 =>
    obtain rfl : (a1, F1, n1) = x:=by simpa using hx
    exact ⟨hv.cell 3, hv.cell 4, hv.cell 5⟩
  | j + 2 => simp at hx
theorem pt1_some {c : Int} {p : Nat → Int × Int} {v : Nat} {T : Int} (h : pt1 c p v = some T) : ∃ S, smP p 600 0 (2 ^ v) 0 = some S ∧ T = S * c:=by
 unfold pt1 at h
 split at h
 ·cases h
 ·next a ha => exact ⟨a, ha, (Option.some.inj h).symm⟩
theorem add2_some {x y : Option Int} {T : Int} (h : add2 x y = some T) : ∃ a b, x = some a ∧ y = some b ∧ T = a + b:=by
 match x, y with
 | some a, some b => exact ⟨a, b, rfl, rfl, (Option.some.inj h).symm⟩
 | none, _ => cases h
 | some _, none => cases h
theorem pt_abs {c S : Int} {p : Nat → Int × Int} {v : Nat} (hg : GdP p) (hS : smP p 600 0 (2 ^ v) 0 = some S) (hc : AbP c 10) (hv : v ≤ 4200) : AbP (S * c) 4850:=((smP_abs hg 600 0 _ _ _ (sp_first hS)).mul hc).up (by omega)

theorem cpi_yes (k : Nat) (T : Int) (w : World) (hk : k ≤ 4150) (hT : Tab w) (hS : piT (k + 32) = some T) :
    Calls Tryz.prog 43 #[.int .i64 (k : Int)] w (RetIE w (mkM (loC T) (-(k : Int))) (mkE (loC T) (-(k : Int))) (mkM (hiC T) (-(k : Int))) (mkE (hiC T) (-(k : Int))) 0):=by
  unfold piT at hS
  obtain ⟨T0, T1, h0, h1, rfl⟩:=add2_some hS
  obtain ⟨S0, hS0, r0⟩:=pt1_some h0
  obtain ⟨S1, hS1, r1⟩:=pt1_some h1
  subst r0 r1
  have hen0 : ∀ args w, (callFunc 94 args).run Tryz.prog w = .ok (.enter 94 args) w:=enters_of Tryz.func94 (by kernel_rfl) rfl
  have G0 : GdP (tnP 5 1):=tnP_good (by simp)
  have a0 : AbP (16) 10:=by unfold AbP; decide
  have u0:=fun W (hW : Below w.heap.size w W) => csum_any 94 hen0 (tnP 5 1) 5 (16) S0 (k + 32) W G0 hS0 a0 (by omega) (hT.mono hW) (fun j W hj => carc_any 5 j W (by omega) (by omega) hj)
  have b0:=pt_abs G0 hS0 a0 (by omega)
  have hen1 : ∀ args w, (callFunc 94 args).run Tryz.prog w = .ok (.enter 94 args) w:=enters_of Tryz.func94 (by kernel_rfl) rfl
  have G1 : GdP (tnP 239 1):=tnP_good (by simp)
  have a1 : AbP (-4) 10:=by unfold AbP; decide
  have u1:=fun W (hW : Below w.heap.size w W) => csum_any 94 hen1 (tnP 239 1) 239 (-4) S1 (k + 32) W G1 hS1 a1 (by omega) (hT.mono hW) (fun j W hj => carc_any 239 j W (by omega) (by omega) hj)
  have b1:=pt_abs G1 hS1 a1 (by omega)
  have g1:=fun v W (hl : RowP W v [((16 : Int), 94, (5 : Int)), ((-4 : Int), 94, (239 : Int))]) (hW : Below w.heap.size w W) => cencl_yes k [((16 : Int), 94, (5 : Int)), ((-4 : Int), 94, (239 : Int))] [S0 * (16), S1 * (-4)] (S0 * (16) + S1 * (-4)) v W hk hl rfl (by simp) (hT.mono hW) (fun c hc => by
    simp only [List.mem_cons, List.not_mem_nil, or_false] at hc
    rcases hc with rfl | rfl <;> assumption) (by unfold ttl; unfold ttl; unfold ttl; rw [Int.zero_add]) (fun j x c W2 hx hc hW2 => by
    have hW3:=hW.trans (hW2.mono hW.size)
    match j with
    | 0 =>
      obtain rfl : ((16 : Int), 94, (5 : Int)) = x:=by simpa using hx
      obtain rfl : S0 * (16) = c:=by simpa using hc
      exact u0 W2 hW3
    | 1 =>
      obtain rfl : ((-4 : Int), 94, (239 : Int)) = x:=by simpa using hx
      obtain rfl : S1 * (-4) = c:=by simpa using hc
      exact u1 W2 hW3
    | j + 2 => simp at hx)
  generalize S0 * (16) + S1 * (-4) = T at *
  clear hen0 G0 a0 u0 b0 hS0 hen1 G1 a1 u1 b1 hS1 hS h0 h1
  generalize mkM (loC T) (-(k : Int)) = Ma at *
  generalize mkE (loC T) (-(k : Int)) = Ea at *
  generalize mkM (hiC T) (-(k : Int)) = Na at *
  generalize mkE (hiC T) (-(k : Int)) = Fa at *
  have H1:=Hd9 g1
  clear g1
  go_enter Tryz.func43, Tryz.ntmps43
  have L:=((Lq.mk0 w).varI (w.heap.size) (by simp) false none 0 0 0 false none 0 0 0)
  replace L:=L.var (w.heap.size + 1) (by simp) 113 #[.int .i64 (16), .func (.func 94) #[] #[], .int .i64 5, .int .i64 (-4), .func (.func 94) #[] #[], .int .i64 239] (plainP2 _ _ _ _ _ _ )
  have p0:=L.b0.cell 0
  have p1:=L.b0.cell 1
  have p2:=L.b0.cell 2
  have p3:=L.b0.cell 3
  have p4:=L.b0.cell 4
  have p5:=L.b0.cell 5
  (try go_wp2_with fail)
  clear p0 p1 p2 p3 p4 p5
  refine (H1.out _ _ (rowP_2 L.b0) L.below).mono ?_
  rintro e w1 ⟨v2, rfl, ii, be⟩
  obtain ⟨A8, c8, B8, d8, rfl, ia, ib⟩:=ii.form
  replace L:=(((L.step be).n ib).n ia).swap
  clear be ii ia ib
  obtain ⟨c00,c01,c02,c03,c04,c05⟩:=L.b0.a6
  obtain ⟨f00,f01,f02,f03,f04,f05⟩:=L.b0.f6
  go_wp2_with fail
  have LP:=L.putI (by omega) (by first | (simp; done) | (simp; omega)) (ng Ma) A8 (zl Ma) c8 Ea (ng Na) B8 (zl Na) d8 Fa
  obtain ⟨k0,k1,k2,k3,k4,k5⟩:=LP.b0.a6
  unfold put6 at k0 k1 k2 k3 k4 k5
  exact bodyPost_ret (v:=.tuple #[.agg #[.bool (ng Ma), .slice A8 (zl Ma) c8, .int .i64 Ea, .bool (ng Na), .slice B8 (zl Na) d8, .int .i64 Fa], .int .i64 0]) (by simp [results, Tryz.results43, go_sem, k0, k1, k2, k3, k4, k5]) rfl ⟨_, rfl, isI_n (LP.getN (by simp)) (LP.getN (by simp)), LP.below⟩
def kd (d : Rat) : Rat:=(d - d⁻¹) / 2
theorem lt_of_mul9 {a b c : Rat} (hc : 0 < c) (h : a * c < b * c) : a < b:=by
 by_cases h2 : a < b
 ·exact h2
 ·have:=Rat.mul_le_mul_of_nonneg_right (show b ≤ a by grind) (Rat.le_of_lt hc)
  grind
def GL : Nat → Rat → Rat → Prop
 | 0, a, c => c * a ≤ 1
 | n + 1, a, c => ∃ d, 0 < d ∧ GL n (a / 2) d ∧ c ≤ kd d
def GU : Nat → Rat → Rat → Prop
 | 0, b, c => 1 - b * b ≤ c * b
 | n + 1, b, c => ∃ d, 0 < d ∧ GU n (b / 2) d ∧ kd d ≤ c
theorem GL.mono {n : Nat} {a c c' : Rat} (h : GL n a c) (ha : 0 ≤ a) (hc : c' ≤ c) : GL n a c':=by
 cases n with
 | zero => exact Rat.le_trans (Rat.mul_le_mul_of_nonneg_right hc ha) h
 | succ n => obtain ⟨d, h1, h2, h3⟩:=h; exact ⟨d, h1, h2, Rat.le_trans hc h3⟩
theorem GU.mono {n : Nat} {b c c' : Rat} (h : GU n b c) (hb : 0 ≤ b) (hc : c ≤ c') : GU n b c':=by
 cases n with
 | zero => exact Rat.le_trans h (Rat.mul_le_mul_of_nonneg_right hc hb)
 | succ n => obtain ⟨d, h1, h2, h3⟩:=h; exact ⟨d, h1, h2, Rat.le_trans h3 hc⟩
def LoC (a c : Rat) : Prop:=∀ a', 0 < a' → a' < a → ∀ n, GL n a' c
def UpC (c b : Rat) : Prop:=0 ≤ b ∧ ∀ b', b < b' → ∃ N, ∀ n, N ≤ n → GU n b' c
theorem LoC.mono {a a' c c' : Rat} (h : LoC a c) (ha : a' ≤ a) (hc : c' ≤ c) : LoC a' c':=fun x h1 h2 n => (h x h1 (by grind) n).mono (Rat.le_of_lt h1) hc
theorem UpC.mono {b b' c c' : Rat} (h : UpC c b) (hb : b ≤ b') (hc : c ≤ c') : UpC c' b':=⟨by have:=h.1; grind, fun x h1 => by
 obtain ⟨N, hN⟩:=h.2 x (by grind)
 exact ⟨N, fun n hn => (hN n hn).mono (by have:=h.1; grind) hc⟩⟩
theorem LoC.all {a c : Rat} (h : ∀ e, 0 < e → LoC (a - e) c) : LoC a c:=fun x h1 h2 n => h ((a - x) / 2) (by grind) x h1 (by grind) n
theorem UpC.all {b c : Rat} (hb : 0 ≤ b) (h : ∀ e, 0 < e → UpC c (b + e)) : UpC c b:=⟨hb, fun x h1 => (h ((x - b) / 2) (by grind)).2 x (by grind)⟩
def AtL (a x : Rat) : Prop:=(0 < x ∧ LoC a x⁻¹) ∨ (x = 0 ∧ a ≤ 0) ∨ (x < 0 ∧ UpC (-x)⁻¹ (-a))
def AtU (x b : Rat) : Prop:=AtL (-b) (-x)
theorem AtL.mono {a a' x : Rat} (h : AtL a x) (ha : a' ≤ a) : AtL a' x:=by
 rcases h with ⟨h0, h1⟩ | ⟨h0, h1⟩ | ⟨h0, h1⟩
 ·exact Or.inl ⟨h0, h1.mono ha Rat.le_refl⟩
 ·exact Or.inr (Or.inl ⟨h0, by grind⟩)
 ·exact Or.inr (Or.inr ⟨h0, h1.mono (by grind) Rat.le_refl⟩)
theorem AtU.mono {x b b' : Rat} (h : AtU x b) (hb : b ≤ b') : AtU x b':=AtL.mono (a := -b) h (by grind)
theorem dq_fl (a b : Int) (p : Nat) : dq (a * b / 2 ^ p) (-(p : Int)) ≤ dq a (-(p : Int)) * dq b (-(p : Int)) ∧ dq a (-(p : Int)) * dq b (-(p : Int)) ≤ dq (a * b / 2 ^ p) (-(p : Int)) + dq 1 (-(p : Int)):=by
 have t:=two_cast p
 have u:=dq_pos (-(p : Int))
 have hp:=pow2_pos p
 have h1 : a * b / 2 ^ p * 2 ^ p ≤ a * b:=Int.ediv_mul_le _ (Int.ne_of_gt hp)
 have h2 : a * b ≤ (a * b / 2 ^ p + 1) * 2 ^ p:=Int.le_of_lt (Int.lt_ediv_add_one_mul_self _ hp)
 have c1:=Rat.intCast_le_intCast.2 h1
 have c2:=Rat.intCast_le_intCast.2 h2
 rw [Rat.intCast_mul, Rat.intCast_mul] at c1 c2
 rw [Rat.intCast_add] at c2
 rw [dq_scale a, dq_scale b, dq_scale (a * b / 2 ^ p)]
 generalize dq 1 (-(p : Int)) = U at *
 generalize (((2 : Int) ^ p : Int) : Rat) = T at *
 generalize ((a * b / 2 ^ p : Int) : Rat) = F at *
 have o : ((1 : Int) : Rat) = 1:=rfl
 rw [o] at c2
 have m1:=Rat.mul_le_mul_of_nonneg_right c1 (Rat.le_of_lt (Rat.mul_pos u u))
 have m2:=Rat.mul_le_mul_of_nonneg_right c2 (Rat.le_of_lt (Rat.mul_pos u u))
 have e1 : F * T * (U * U) = F * U * (T * U):=by grind
 have e2 : (F + 1) * T * (U * U) = (F + 1) * U * (T * U):=by grind
 rw [e1, t] at m1
 rw [e2, t] at m2
 constructor <;> grind
structure SmX (X Q : Int) (p : Nat) : Prop where
 nn : 0 ≤ X
 lt : X * 1024 ≤ 2 ^ p
 sq : Q = X * X / 2 ^ p
theorem SmX.q {X Q : Int} {p : Nat} (h : SmX X Q p) : 0 ≤ Q ∧ Q * 1048576 ≤ 2 ^ p:=by
 have hp:=pow2_pos p
 have h2:=Int.mul_le_mul h.lt h.lt (by have:=h.nn; omega) (Int.le_of_lt hp)
 rw [h.sq]
 refine ⟨Int.ediv_nonneg (Int.mul_nonneg h.nn h.nn) (Int.le_of_lt hp), ?_⟩
 refine Int.le_of_mul_le_mul_right (a:=2 ^ p) ?_ hp
 have h1 : X * X / 2 ^ p * 2 ^ p ≤ X * X:=Int.ediv_mul_le _ (Int.ne_of_gt hp)
 generalize X * X / 2 ^ p = q at *
 generalize (2 : Int) ^ p = P at *
 have e1 : X * 1024 * (X * 1024) = X * X * 1048576:=by
  rw [show X * 1024 * (X * 1024) = X * (1024 * (X * 1024)) from Int.mul_assoc _ _ _, show 1024 * (X * 1024) = X * 1024 * 1024 from Int.mul_comm _ _, Int.mul_assoc X 1024 1024, ← Int.mul_assoc X X]
  rfl
 have e2 : q * 1048576 * P = q * P * 1048576:=by rw [Int.mul_assoc, Int.mul_comm 1048576, ← Int.mul_assoc]
 omega
structure HvI (p : Nat) (C0 : Int) (j : Nat) (C : Int) : Prop where
 up : ∀ b, UpC (dq C (-(p : Int))) b → UpC (dq C0 (-(p : Int))) (rp 2 j * b)
 lo : ∀ a, LoC a (dq C (-(p : Int)) + (2 * rp 2 j - 1) * dq 1 (-(p : Int))) → LoC (rp 2 j * a) (dq C0 (-(p : Int)) + dq 1 (-(p : Int)))
 nn : 0 ≤ C
 big : 1 ≤ j → (2 : Int) ^ (p + j) ≤ 2 * C
theorem HvI.first {p : Nat} {C : Int} (h : 0 ≤ C) : HvI p C 0 C:=by
 refine ⟨fun b hb => ?_, fun a ha => ?_, h, by omega⟩
 ·show UpC _ (1 * b)
  rwa [Rat.one_mul]
 ·show LoC (1 * a) _
  rw [Rat.one_mul]
  rwa [show (2 * rp 2 0 - 1) * dq 1 (-(p : Int)) = dq 1 (-(p : Int)) by show (2 * 1 - 1) * dq 1 (-(p : Int)) = _; grind] at ha
def AgI (p : Nat) (C0 Z : Int) : Prop:=LoC (dq (Z - 2097152) (-(p : Int))) (dq C0 (-(p : Int)) + dq 1 (-(p : Int))) ∧ UpC (dq C0 (-(p : Int))) (dq (Z + 2097152) (-(p : Int)))
def AtB (p : Nat) (Z : Int) (x : Rat) : Prop:=AtL (dq (Z - 2097152) (-(p : Int))) x ∧ AtU x (dq (Z + 2097152) (-(p : Int)))
theorem AgI.at {p : Nat} {C0 Z : Int} {x : Rat} (h : AgI p C0 Z) (hx : 0 < x) (h1 : dq C0 (-(p : Int)) ≤ x⁻¹) (h2 : x⁻¹ ≤ dq C0 (-(p : Int)) + dq 1 (-(p : Int))) : AtB p Z x:=by
 refine ⟨Or.inl ⟨hx, h.1.mono Rat.le_refl h2⟩, Or.inr (Or.inr ⟨by grind, ?_⟩)⟩
 rw [Rat.neg_neg, Rat.neg_neg]
 exact h.2.mono Rat.le_refl h1
theorem rec_bd {x : Rat} {p b k : Nat} (h1 : 1 ≤ x) (hp : k + b = p) : cutQ (dq 1 (b : Int) / x) (k : Int) = cutQ (1 / x) (p : Int) ∧ AbP (cutQ (1 / x) (p : Int)) p ∧ AbP (-(cutQ (-(dq 1 (b : Int) / x)) (k : Int))) p ∧ dq (cutQ (1 / x) (p : Int)) (-(p : Int)) * x ≤ 1 ∧ 1 ≤ (dq (cutQ (1 / x) (p : Int)) (-(p : Int)) + dq 1 (-(p : Int))) * x ∧ 0 ≤ cutQ (1 / x) (p : Int):=by
 have hx : (0 : Rat) < x:=by grind
 have e1 : cutQ (dq 1 (b : Int) / x) (k : Int) = cutQ (1 / x) (p : Int):=by
  unfold cutQ
  congr 1
  have:=dq_mul 1 (b : Int) 1 (k : Int)
  rw [Int.one_mul, show (b : Int) + (k : Int) = (p : Int) by omega] at this
  rw [this, Rat.div_def, Rat.div_def]
  grind
 have iv : 1 / x * x = 1:=Rat.div_mul_cancel (Rat.ne_of_gt hx)
 have iv1 : 1 / x ≤ 1:=le_of_mul hx (by rw [iv]; grind)
 have iv0 : 0 < 1 / x:=by
  refine Rat.not_le.1 fun hle => ?_
  have:=Rat.mul_le_mul_of_nonneg_right hle (Rat.le_of_lt hx)
  rw [iv] at this
  grind
 have c1:=cut_lo (1 / x) (p : Int)
 have c2:=cut_hi (1 / x) (p : Int)
 have hu:=dq_pos (-(p : Int))
 have one : dq (2 ^ p) (-(p : Int)) = 1:=by rw [dq_scale]; exact two_cast p
 have nn : 0 ≤ cutQ (1 / x) (p : Int):=by
  refine Int.not_lt.1 fun hlt => ?_
  have:=(dq_le_iff (cutQ (1 / x) (p : Int) + 1) 0 (-(p : Int))).2 (by omega)
  rw [dq_succ, dq_zero] at this
  grind
 have up : cutQ (1 / x) (p : Int) ≤ 2 ^ p:=(dq_le_iff _ _ (-(p : Int))).1 (by rw [one]; exact Rat.le_trans c1 iv1)
 have ab : ∀ y : Int, 0 ≤ y → y ≤ 2 ^ p → AbP y p:=fun y h0 h9 => by
  unfold AbP
  have : ((2 ^ p : Nat) : Int) = 2 ^ p:=by push_cast; rfl
  omega
 refine ⟨e1, ab _ nn up, ?_, ?_, ?_, nn⟩
 ·have d1:=cut_lo (-(dq 1 (b : Int) / x)) (k : Int)
  have d2:=cut_hi (-(dq 1 (b : Int) / x)) (k : Int)
  have hb:=dq_pos (b : Int)
  have q1 : dq 1 (b : Int) / x ≤ dq 1 (b : Int):=by
   refine le_of_mul hx ?_
   rw [Rat.div_mul_cancel (Rat.ne_of_gt hx)]
   have:=Rat.mul_le_mul_of_nonneg_left h1 (Rat.le_of_lt hb)
   grind
  have q0 : 0 ≤ dq 1 (b : Int) / x:=by
   refine le_of_mul hx ?_
   rw [Rat.div_mul_cancel (Rat.ne_of_gt hx), Rat.zero_mul]
   exact Rat.le_of_lt hb
  refine ab _ ?_ ?_
  ·have:=(dq_le_iff (cutQ (-(dq 1 (b : Int) / x)) (k : Int)) 0 (-(k : Int))).1 (by rw [dq_zero]; grind)
   omega
  ·have e : dq (-(2 ^ p)) (-(k : Int)) = -dq 1 (b : Int):=by
    rw [dq_neg]
    congr 1
    refine dq_eq (F := -(k : Int)) ?_ (by omega) (by omega)
    rw [show (-(k : Int) - -(k : Int)).toNat = 0 by omega, show ((b : Int) - -(k : Int)).toNat = p by omega]
    simp
   have h9 : dq (-(2 ^ p)) (-(k : Int)) < dq (cutQ (-(dq 1 (b : Int) / x)) (k : Int) + 1) (-(k : Int)):=by
    rw [e, dq_succ]
    grind
   have h8 : ¬ (cutQ (-(dq 1 (b : Int) / x)) (k : Int) + 1 ≤ -(2 ^ p)):=fun h => Rat.not_le.2 h9 ((dq_le_iff _ _ _).2 h)
   omega
 ·have:=Rat.mul_le_mul_of_nonneg_right c1 (Rat.le_of_lt hx)
  rw [iv] at this
  exact this
 ·have:=Rat.mul_le_mul_of_nonneg_right (Rat.le_of_lt c2) (Rat.le_of_lt hx)
  rw [iv] at this
  exact this
theorem near_bd (q : Rat) (p : Nat) {Mi : Int} (h : (cutQ q ((p : Int) + 1) + 1) / 2 = Mi) : q ≤ dq Mi (-(p : Int)) + dq 1 (-(p : Int)) ∧ dq Mi (-(p : Int)) ≤ q + dq 1 (-(p : Int)):=by
 have c1:=cut_lo q ((p : Int) + 1)
 have c2:=cut_hi q ((p : Int) + 1)
 obtain ⟨c, hc⟩:=nm9 (cutQ q ((p : Int) + 1))
 rw [hc] at h c1 c2
 have e : ∀ X : Int, dq X (-(p : Int)) = dq (2 * X) (-((p : Int) + 1)):=fun X => by
  refine dq_eq (F := -((p : Int) + 1)) ?_ (by omega) (by omega)
  rw [show (-(p : Int) - -((p : Int) + 1)).toNat = 1 by omega, show (-((p : Int) + 1) - -((p : Int) + 1)).toNat = 0 by omega]
  omega
 rw [e Mi, e 1, ← dq_succ] at *
 have hv:=dq_pos (-((p : Int) + 1))
 have h1:=(dq_le_iff (c + 1) (2 * Mi + 1) (-((p : Int) + 1))).2 (by omega)
 have h2:=(dq_le_iff (2 * Mi) (c + 1) (-((p : Int) + 1))).2 (by omega)
 have e2 : dq (2 * 1) (-((p : Int) + 1)) = dq 1 (-((p : Int) + 1)) + dq 1 (-((p : Int) + 1)):=by
  rw [← dq_addI]; rfl
 rw [e2]
 rw [dq_succ] at h1 h2 c2
 rw [dq_succ] at h1
 generalize dq c (-((p : Int) + 1)) = x at *
 generalize dq (2 * Mi) (-((p : Int) + 1)) = y at *
 generalize dq 1 (-((p : Int) + 1)) = v at *
 clear e e2 hc
 constructor <;> grind
theorem abp_in {y : Int} {p : Nat} (h0 : -(2 ^ p) ≤ y) (h : y ≤ 2 ^ p) : AbP y p:=by
 unfold AbP
 have : ((2 ^ p : Nat) : Int) = 2 ^ p:=by push_cast; rfl
 omega
theorem dq_abp {y : Int} {p : Nat} (h0 : -1 ≤ dq y (-(p : Int))) (h : dq y (-(p : Int)) ≤ 1) : AbP y p:=by
 refine abp_in ((dq_le_iff _ _ (-(p : Int))).1 ?_) ((dq_le_iff _ _ (-(p : Int))).1 ?_)
 ·rw [dq_neg, one_p]; exact h0
 ·rw [one_p]; exact h
theorem u1000 {p : Nat} (h : 32 ≤ p) : dq 1 (-(p : Int)) ≤ 1 / 1000:=by
 refine Rat.le_trans (dq_anti (a := -(p : Int)) (b := -10) (by omega)) ?_
 decide +kernel
theorem nx_sub {s t x : Int} {j : Nat} (h1 : AbP s j) (h2 : AbP t j) (hj : j ≤ 6000) (hx : -6000 ≤ x ∧ x ≤ 100) :
  mkR (addS (mkM s x) (mkE s x) (-(mkM t x)) (mkE t x)) (min (mkE s x) (mkE t x)) = 0 ∧
  mkM (addS (mkM s x) (mkE s x) (-(mkM t x)) (mkE t x)) (min (mkE s x) (mkE t x)) = mkM (s - t) x ∧
  mkE (addS (mkM s x) (mkE s x) (-(mkM t x)) (mkE t x)) (min (mkE s x) (mkE t x)) = mkE (s - t) x:=by
 obtain ⟨a1, a2, a3, a4, a5⟩:=nx (x:=x) h1 (by omega) (by omega)
 obtain ⟨b1, b2, b3, b4, b5⟩:=nx (x:=x) h2 (by omega) (by omega)
 have hn:=zl_neg (mkM t x)
 have hz:=zl_addS (mkM s x) (mkE s x) (-(mkM t x)) (mkE t x) 7500 (by omega) (by omega)
 obtain ⟨c1, _⟩:=nx (x:=x) (h1.add h2.neg) (by omega) (by omega)
 rw [← Int.sub_eq_add_neg] at c1
 have hr : mkR (addS (mkM s x) (mkE s x) (-(mkM t x)) (mkE t x)) (min (mkE s x) (mkE t x)) = 0:=mk_fits9 (by omega) (by omega) (by omega)
 exact ⟨hr, mk_uniq hr c1 (by rw [dq_add, dq_neg, a5, b5, Int.sub_eq_add_neg, dq_addI, dq_neg])⟩
structure LgN (q : Rat) (p : Nat) (Mi R Z Q : Int) : Prop where
 mi : (cutQ q ((p : Int) + 1) + 1) / 2 = Mi
 r : cutQ (1 / dq (Mi + 2 ^ p) (-(p : Int))) (p : Int) = R
 z : cutQ (dq (Mi - 2 ^ p) (-(p : Int)) * dq R (-(p : Int))) (p : Int) = Z
 q : cutQ (dq Z (-(p : Int)) * dq Z (-(p : Int))) (p : Int) = Q
structure LgB (q : Rat) (p : Nat) (Mi R Z Q : Int) : Prop where
 d1 : q ≤ dq Mi (-(p : Int)) + dq 1 (-(p : Int))
 d2 : dq Mi (-(p : Int)) ≤ q + dq 1 (-(p : Int))
 r1 : dq R (-(p : Int)) * (dq Mi (-(p : Int)) + 1) ≤ 1
 r2 : 1 ≤ (dq R (-(p : Int)) + dq 1 (-(p : Int))) * (dq Mi (-(p : Int)) + 1)
 z1 : dq Z (-(p : Int)) ≤ (dq Mi (-(p : Int)) - 1) * dq R (-(p : Int))
 z2 : (dq Mi (-(p : Int)) - 1) * dq R (-(p : Int)) ≤ dq Z (-(p : Int)) + dq 1 (-(p : Int))
 z3 : -(1 / 4) ≤ dq Z (-(p : Int))
 z4 : dq Z (-(p : Int)) ≤ 1 / 4
 q1 : dq Q (-(p : Int)) ≤ dq Z (-(p : Int)) * dq Z (-(p : Int))
 q2 : dq Z (-(p : Int)) * dq Z (-(p : Int)) ≤ dq Q (-(p : Int)) + dq 1 (-(p : Int))
 am : AbP Mi (p + 1)
 aA : AbP (Mi + 2 ^ p) (p + 2)
 aB : AbP (Mi - 2 ^ p) (p + 2)
 a1 : 1 ≤ dq (Mi + 2 ^ p) (-(p : Int))
 aR : AbP R p
 aZ : AbP Z p
 q0 : 0 ≤ Q
 q16 : 16 * Q < 2 ^ p
theorem LgN.all {q : Rat} {p : Nat} {Mi R Z Q : Int} (h : LgN q p Mi R Z Q) (hq1 : 3 / 4 ≤ q) (hq2 : q ≤ 3 / 2) (hp : 32 ≤ p) : LgB q p Mi R Z Q:=by
 obtain ⟨h1, h2, h3, h4⟩:=h
 have hu:=dq_pos (-(p : Int))
 have hu1:=u1000 hp
 obtain ⟨d1, d2⟩:=near_bd q p h1
 have eA : dq (Mi + 2 ^ p) (-(p : Int)) = dq Mi (-(p : Int)) + 1:=by rw [dq_addI, one_p]
 have eB : dq (Mi - 2 ^ p) (-(p : Int)) = dq Mi (-(p : Int)) - 1:=by rw [Int.sub_eq_add_neg, dq_addI, dq_neg, one_p, Rat.sub_eq_add_neg]
 have a1 : 1 ≤ dq (Mi + 2 ^ p) (-(p : Int)):=by
  rw [eA]
  generalize dq Mi (-(p : Int)) = x at *
  generalize dq 1 (-(p : Int)) = u at *
  clear h1 h2 h3 h4 eA eB
  grind
 obtain ⟨_, r2, _, r4, r5, r6⟩:=rec_bd (p:=p) (b:=0) (k:=p) a1 (by omega)
 rw [h2] at r2 r4 r5
 rw [eA] at r4 r5
 have z1:=cut_lo (dq (Mi - 2 ^ p) (-(p : Int)) * dq R (-(p : Int))) (p : Int)
 have z2:=cut_hi (dq (Mi - 2 ^ p) (-(p : Int)) * dq R (-(p : Int))) (p : Int)
 rw [h3, eB] at z1 z2
 obtain ⟨z3, z4⟩:=ln_argz4 hq1 hq2 (Rat.le_of_lt hu) hu1 d1 d2 r4 r5 z1 (Rat.le_of_lt z2)
 have q1:=cut_lo (dq Z (-(p : Int)) * dq Z (-(p : Int))) (p : Int)
 have q2:=cut_hi (dq Z (-(p : Int)) * dq Z (-(p : Int))) (p : Int)
 have q0:=cut_nn (rsq_nn (dq Z (-(p : Int)))) (p:=(p : Int))
 rw [h4] at q0 q1 q2
 have zz : dq Z (-(p : Int)) * dq Z (-(p : Int)) ≤ 3 / 50:=by
  generalize dq Z (-(p : Int)) = z at *
  rcases (Rat.le_total : 0 ≤ z ∨ z ≤ 0) with h | h
  ·have:=rmul_le z4 z4 h (by grind)
   grind
  ·have:=rmul_le (a := -z) (b:=121 / 500) (c := -z) (d:=121 / 500) (by grind) (by grind) (by grind) (by grind)
   grind
 have t2 : ∀ y : Int, dq y (-(p : Int)) ≤ 2 → y ≤ 2 * 2 ^ p:=fun y hy => (dq_le_iff _ _ (-(p : Int))).1 (by
  have e : dq (2 * 2 ^ p) (-(p : Int)) = 2:=by
   rw [dq_scale, Rat.intCast_mul, Rat.mul_assoc, two_cast, Rat.mul_one]
   rfl
  rw [e]; exact hy)
 have mb1 : Mi ≤ 2 * 2 ^ p:=t2 Mi (by
  generalize dq Mi (-(p : Int)) = x at *
  generalize dq 1 (-(p : Int)) = u at *
  clear h1 h2 h3 h4 eA eB
  grind)
 have mb0 : 0 ≤ Mi:=(dq_le_iff _ _ (-(p : Int))).1 (by
  rw [dq_zero]
  generalize dq Mi (-(p : Int)) = x at *
  generalize dq 1 (-(p : Int)) = u at *
  clear h1 h2 h3 h4 eA eB
  grind)
 have hp0:=pow2_pos p
 have e1 : (2 : Int) ^ (p + 1) = 2 * 2 ^ p:=by rw [Int.pow_succ, Int.mul_comm]
 have e2 : (2 : Int) ^ (p + 2) = 4 * 2 ^ p:=by rw [Int.pow_succ, Int.pow_succ]; omega
 refine ⟨d1, d2, r4, r5, z1, Rat.le_of_lt z2, by grind, by grind, q1, Rat.le_of_lt q2, abp_in (by omega) (by omega), abp_in (by omega) (by omega), abp_in (by omega) (by omega), a1, r2, dq_abp (by grind) (by grind), q0, ?_⟩
 refine Int.not_le.1 fun hle => ?_
 have h9:=(dq_le_iff _ _ (-(p : Int))).2 hle
 rw [one_p, dq_scale, Rat.intCast_mul, Rat.mul_assoc, ← dq_scale] at h9
 have e : ((16 : Int) : Rat) = 16:=rfl
 rw [e] at h9
 generalize dq Q (-(p : Int)) = x at *
 generalize dq Z (-(p : Int)) * dq Z (-(p : Int)) = y at *
 clear h1 h2 h3 h4 eA eB z1 z2 r4 r5
 grind
theorem LgB.gs {q : Rat} {p n : Nat} {Mi R Z Q T G : Int} (h : LgB q p Mi R Z Q) (s : SerOk Q p n T) (hp : 32 ≤ p) (hG : cutQ (dq Z (-(p : Int)) * dq T (-(p : Int))) (p : Int) = G) : AbP G p:=by
 have hu:=dq_pos (-(p : Int))
 have hu1:=u1000 hp
 have g1:=cut_lo (dq Z (-(p : Int)) * dq T (-(p : Int))) (p : Int)
 have g2:=cut_hi (dq Z (-(p : Int)) * dq T (-(p : Int))) (p : Int)
 rw [hG] at g1 g2
 have q0:=(dq_le_iff 0 Q (-(p : Int))).2 h.q0
 rw [dq_zero] at q0
 have q16 : dq Q (-(p : Int)) ≤ 1 / 16:=by
  have h1:=(dq_le_iff (16 * Q) (2 ^ p) (-(p : Int))).2 (by have:=h.q16; omega)
  rw [one_p, dq_scale, Rat.intCast_mul, Rat.mul_assoc, ← dq_scale] at h1
  have e : ((16 : Int) : Rat) = 16:=rfl
  rw [e] at h1
  generalize dq Q (-(p : Int)) = x at *
  grind
 have t1:=Rat.le_trans s.up (hr_le q0 q16 n 0)
 have t0:=(dq_le_iff 0 T (-(p : Int))).2 s.t0
 rw [dq_zero] at t0
 have b1:=Rat.mul_le_mul_of_nonneg_right h.z4 t0
 have b2:=Rat.mul_le_mul_of_nonneg_right h.z3 t0
 generalize dq Z (-(p : Int)) * dq T (-(p : Int)) = y at *
 generalize dq T (-(p : Int)) = t at *
 refine dq_abp ?_ ?_
 ·generalize dq G (-(p : Int)) = g at *
  clear hG h s q0 q16
  grind
 ·generalize dq G (-(p : Int)) = g at *
  clear hG h s q0 q16
  grind
theorem cut_fl (a b : Int) (p : Nat) : cutQ (dq a (-(p : Int)) * dq b (-(p : Int))) (p : Int) = a * b / 2 ^ p:=by
 refine cut_unique (dq_fl a b p).1 ?_
 have t:=two_cast p
 have u:=dq_pos (-(p : Int))
 have hp:=pow2_pos p
 have h2 : a * b < (a * b / 2 ^ p + 1) * 2 ^ p:=Int.lt_ediv_add_one_mul_self _ hp
 have c2:=Rat.intCast_lt_intCast.2 h2
 rw [Rat.intCast_mul, Rat.intCast_mul, Rat.intCast_add] at c2
 rw [dq_scale a, dq_scale b, dq_scale (a * b / 2 ^ p)]
 generalize dq 1 (-(p : Int)) = U at *
 generalize (((2 : Int) ^ p : Int) : Rat) = T at *
 generalize ((a * b / 2 ^ p : Int) : Rat) = F at *
 have o : ((1 : Int) : Rat) = 1:=rfl
 rw [o] at c2
 have m2:=Rat.mul_lt_mul_of_pos_right c2 (Rat.mul_pos u u)
 have e2 : (F + 1) * T * (U * U) = (F + 1) * U * (T * U):=by grind
 rw [e2, t] at m2
 grind
theorem cut_int (P : Int) {k : Int} (hk : 0 < k) (p : Nat) : cutQ (dq P (-(p : Int)) / dq k 0) (p : Int) = P / k:=by
 have u:=dq_pos (-(p : Int))
 have kk : (0 : Rat) < (k : Rat):=Rat.intCast_lt_intCast.2 hk
 have e0 : dq k 0 = (k : Rat):=dq_int k
 rw [e0]
 have dv : dq P (-(p : Int)) / (k : Rat) * (k : Rat) = dq P (-(p : Int)):=Rat.div_mul_cancel (Rat.ne_of_gt kk)
 refine cut_unique (le_of_mul kk (by rw [dv]; exact fdiv_le hk _)) ?_
 refine lt_of_mul9 kk ?_
 rw [dv, ← dq_succ, dq_scale (P / k + 1), dq_scale P]
 have c:=Rat.intCast_lt_intCast.2 (Int.lt_ediv_add_one_mul_self P hk)
 rw [Rat.intCast_mul] at c
 have m:=Rat.mul_lt_mul_of_pos_right c u
 grind
theorem cmp_z {x : Int} : cmpI x 0 = 0 ↔ x = 0:=by
 unfold cmpI
 (repeat' split) <;> omega
theorem mk_z {x e : Int} (h : mkR x e = 0) : mkM x e = 0 ↔ x = 0:=by
 have q:=dq_mk h
 constructor
 ·intro h0
  rw [h0, dq_zero] at q
  have a:=(dq_le_iff x 0 e).1 (by rw [dq_zero, ← q]; exact Rat.le_refl)
  have b:=(dq_le_iff 0 x e).1 (by rw [dq_zero, ← q]; exact Rat.le_refl)
  omega
 ·intro h0
  subst h0
  rw [dq_zero] at q
  have a:=(dq_le_iff (mkM 0 e) 0 (mkE 0 e)).1 (by rw [dq_zero, q]; exact Rat.le_refl)
  have b:=(dq_le_iff 0 (mkM 0 e) (mkE 0 e)).1 (by rw [dq_zero, q]; exact Rat.le_refl)
  omega
theorem nx_shl {s : Int} {p j k : Nat} (h : AbP s j) (hj : j ≤ 2000) (hk : k ≤ 100) (hp : p ≤ 2000) : mkR (mkM s (-(p : Int))) (mkE s (-(p : Int)) + (k : Int)) = 0 ∧ mkM (mkM s (-(p : Int))) (mkE s (-(p : Int)) + (k : Int)) = mkM (s * 2 ^ k) (-(p : Int)) ∧ mkE (mkM s (-(p : Int))) (mkE s (-(p : Int)) + (k : Int)) = mkE (s * 2 ^ k) (-(p : Int)):=by
 obtain ⟨a1, a2, a3, a4, a5⟩:=nx (x := -(p : Int)) h (by omega) (by omega)
 have hr : mkR (mkM s (-(p : Int))) (mkE s (-(p : Int)) + (k : Int)) = 0:=mk_fits9 (by omega) (by omega) (by omega)
 have hs : AbP (s * 2 ^ k) (j + k):=AbP.mul h (by unfold AbP; rw [Int.natAbs_pow]; exact Nat.le_refl _)
 obtain ⟨b1, _⟩:=nx (x := -(p : Int)) hs (by omega) (by omega)
 refine ⟨hr, mk_uniq hr b1 ?_⟩
 have e1:=dq_mul (mkM s (-(p : Int))) (mkE s (-(p : Int))) 1 (k : Int)
 rw [Int.mul_one, a5] at e1
 have e2 : dq (s * 2 ^ k) (-(p : Int)) = dq s (-(p : Int)) * dq 1 (k : Int):=by
  have:=dq_mul s (-(p : Int)) 1 (k : Int)
  rw [Int.mul_one] at this
  rw [← this]
  refine dq_eq (F := -(p : Int)) ?_ (by omega) (by omega)
  rw [show (-(p : Int) - -(p : Int)).toNat = 0 by omega, show (-(p : Int) + (k : Int) - -(p : Int)).toNat = k by omega]
  simp
 rw [e1, e2]

end Go.Proofs.YtiddbhhhmeopeaaGreatDoor
