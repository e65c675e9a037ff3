/- Joined: LnA, LnE, LnB, LnD, LnF, CpE, LnG, LnPE, Awake15, MillAr, ExK, LnH, ExL, LnJ (what the law leans on). -/
import Derived.Test.YtmgbjldogggpcaaGreatDoorBaseDL
import Derived.Test.YtmgbjldogggpcaaGreatDoorBaseEL
import Derived.Test.YtmgbjldogggpcaaGreatDoorBaseVL
import Derived.Test.YtmgbjldogggpcaaGreatDoorBaseWL
import Derived.Test.YtmgbjldogggpcaaGreatDoorRefGrBL
import Derived.Test.YtmgbjldogggpcaaGreatDoorBaseGL
import Derived.Test.YtmgbjldogggpcaaGreatDoorBaseXL
import Derived.Test.YtmgbjldogggpcaaGreatDoorGrPCL
import Derived.Test.YtmgbjldogggpcaaGreatDoorBaseZL
import Derived.Test.YtmgbjldogggpcaaGreatDoorJL1
import Derived.Test.YtmgbjldogggpcaaGreatDoorJL2
import Derived.Test.YtmgbjldogggpcaaGreatDoorJL3
import Derived.BigQuiet
import Derived.Deep.Cut
import Derived.Deep.CutRange
import Derived.Deep.DrawnRows
import Derived.Deep.QuietTactic
import Derived.Deep.RegionHeld3
namespace Go.Proofs.YtmgbjldogggpcaaGreatDoor
set_option maxHeartbeats 64000000
open Go.RowKit
set_option linter.unusedVariables false
set_option linter.unusedSimpArgs false
set_option maxRecDepth 100000
attribute [local go_sem ↓] Go.wp_at_zero Go.wp_at_succ

def okL (p : Int) : Bool:=decide (0 ≤ p) && decide (p ≤ 4096)
theorem lperm_any (p : Int) (w : World) :
  Calls Tryz.prog 49 #[.int .i64 p] w (fun e w' => e = .returned (.bool (okL p)) ∧ w = w'):=by
 unfold okL
 by_cases q1 : 0 ≤ p
 ·have b1 : decide (0 ≤ p) = true:=decide_eq_true q1
  rw [b1, Bool.true_and]
  go_enter Tryz.func49, Tryz.ntmps49
  go_wp2_with fail
  go_ret
  exact ⟨rfl, rfl⟩
 ·have b1 : decide (0 ≤ p) = false:=decide_eq_false q1
  rw [b1, Bool.false_and]
  go_enter Tryz.func49, Tryz.ntmps49
  go_wp2_with fail
  go_ret
  exact ⟨rfl, rfl⟩
theorem lprod_any (M E N G F : Int) (p : Nat) (vx vy : Value) (w : World) (hx : IsD w vx M E) (hy : IsD w vy N G) (lm : zl M ≤ 150) (ln : zl N ≤ 150) (he : -4500 ≤ E ∧ E ≤ 4500) (hg : -4500 ≤ G ∧ G ≤ 4500) (hF : cutQ (dq M E * dq N G) (p : Int) = F) (hb : AbP F 10000) (hp : p ≤ 8192) (hT : Tab w) :
  Calls Tryz.prog 124 #[vx, vy, .int .i64 (p : Int)] w (RetD8 w (mkM F (-(p : Int))) (mkE F (-(p : Int)))):=by
 obtain ⟨A, c, rfl, _, hn⟩:=hx.form
 obtain ⟨B, d, rfl, _, hn2⟩:=hy.form
 have L0:=((Lq.mk0 w).n hn2).n hn
 have hz:=zl_mul M N
 have hr : mkR (M * N) (E + G) = 0:=mk_fits9 (by omega) (by omega) (by omega)
 have z1:=zl_mk (M * N) (E + G)
 have z2:=mkE_at hr (k:=300) (by omega)
 have hd:=dq_mk hr
 rw [dq_mul] at hd
 obtain ⟨M4, hM4⟩:=nm9 (mkM (M * N) (E + G))
 obtain ⟨E4, hE4⟩:=nm9 (mkE (M * N) (E + G))
 rw [hM4] at z1 hd
 rw [hE4] at z2 hd
 have g1:=fun x y W h j (hW : Below w.heap.size w W) => dmul_any M E N G x y W h j (by omega) (by omega) (by omega) (by omega) (hT.mono hW)
 rw [hM4, hE4, hr] at g1
 obtain ⟨y1, y2, y3⟩:=g_yes (permN (p:=p) (by omega)) F
 obtain ⟨n1, n2, n3, _, _⟩:=nx hb (by omega) (show -20000 ≤ -(p : Int) ∧ -(p : Int) ≤ 20000 by omega)
 have g2:=fun x W h (hW : Below w.heap.size w W) => gfloor_any M4 E4 (p : Int) x W h (by omega) (by omega) (by omega) (by omega) (hT.mono hW)
 rw [hd, hF, y1, y2, y3, n1] at g2
 clear y1 y2 y3 n1 n2 n3 hz hr z1 z2 hd hM4 hE4 lm ln he hg hb hp hT hF hx hy
 generalize mkM F (-(p : Int)) = Z at *
 generalize mkE F (-(p : Int)) = Q at *
 have G1:=Hd9 g1
 have G2:=Hd9 g2
 clear g1 g2
 go_enter Tryz.func124, Tryz.ntmps124
 have L:=(((L0.varD (w.heap.size) (by simp) (ng M) A (zl M) c E).varD (w.heap.size + 1) (by simp) (ng N) B (zl N) d G).varD (w.heap.size + 2) (by simp) false none 0 0 0)
 obtain ⟨c10,c11,c12⟩:=L.tl.b0.a3
 obtain ⟨c20,c21,c22⟩:=L.tl.tl.b0.a3
 (try go_wp2_with fail)
 refine (G1.out _ _ _ (isD_n (m:=M) (e:=E) (s:=.slice A (zl M) c) (L.getN (by simp))) (isD_n (m:=N) (e:=G) (s:=.slice B (zl N) d) (L.getN (by simp))) L.below).mono ?_
 rintro e w1 ⟨v9, rfl, iz, be⟩
 clear c10 c11 c12 c20 c21 c22
 obtain ⟨A4, c4, rfl, _, in9⟩:=iz.form
 replace L:=(L.step be).n in9
 clear be iz in9
 have hl9:=L.b0.lt
 replace L:=L.varD w1.heap.size rfl (ng M4) A4 (zl M4) c4 E4
 obtain ⟨c00,c01,c02⟩:=L.b0.a3
 go_wp2_with fail
 clear c00 c01 c02
 obtain ⟨g1, hg1⟩:=nm9 (w1.heap.size)
 rw [hg1] at L hl9 ⊢
 clear hg1
 have hl_g1:=hl9
 clear hl9
 refine (G2.out _ _ (isD_n (m:=M4) (e:=E4) (s:=.slice A4 (zl M4) c4) (L.getN (by simp))) L.below).mono ?_
 rintro e w2 ⟨v9, rfl, iz, be⟩
 obtain ⟨A5, c5, rfl, _, in9⟩:=iz.form
 replace L:=(L.step be).n in9
 clear be iz in9
 have hl9:=L.b0.lt
 have L9:=L.subx (ns':=[(.slice A5 (zl Z) c5, Z.natAbs)]) (bs':=[(w.heap.size + 1 + 1, 26, #[.bool false, .slice none 0 0, .int .i64 0])]) (by simp) (by simp)
 clear L
 have L:=L9
 clear L9
 have n9 : w.heap.size + 1 + 1 ≠ w2.heap.size:=by omega
 obtain ⟨c00,c01,c02⟩:=L.b0.a3
 obtain ⟨f00,f01,f02⟩:=L.b0.f3
 have LN:=L.varD w2.heap.size rfl (ng Z) A5 (zl Z) c5 Q
 obtain ⟨v0,v1,v2⟩:=LN.b0.a3
 obtain ⟨v3,v4,v5⟩:=LN.tl.b0.a3
 obtain ⟨v6,v7,v8⟩:=LN.tl.b0.f3
 go_wp2_with fail
 clear c00 f00 c01 f01 c02 f02
 clear v0 v1 v2 v3 v4 v5 v6 v7 v8
 clear L
 have L:=LN.swap
 clear LN
 have LP:=L.putD (by omega) (by first | (simp; done) | (simp; omega)) (ng Z) A5 (zl Z) c5 (Q)
 obtain ⟨k0,k1,k2⟩:=LP.b0.a3
 unfold put3 at k0 k1 k2
 exact bodyPost_ret (v:=.agg #[.bool (ng Z), .slice A5 (zl Z) c5, .int .i64 (Q)]) (by simp [results, Tryz.results124, go_sem, k0, k1, k2]) rfl ⟨_, rfl, isD_n (LP.getN (by simp)), LP.below⟩
theorem rec_bd {x : Rat} {p b k : Nat} (h1 : 1 ≤ x) (hp : k + b = p) : cutQ (dq 1 (b : Int) / x) (k : Int) = cutQ (1 / x) (p : Int) ∧ AbP (cutQ (1 / x) (p : Int)) p ∧ AbP (-(cutQ (-(dq 1 (b : Int) / x)) (k : Int))) p ∧ dq (cutQ (1 / x) (p : Int)) (-(p : Int)) * x ≤ 1 ∧ 1 ≤ (dq (cutQ (1 / x) (p : Int)) (-(p : Int)) + dq 1 (-(p : Int))) * x ∧ 0 ≤ cutQ (1 / x) (p : Int):=by
 have hx : (0 : Rat) < x:=by grind
 have e1 : cutQ (dq 1 (b : Int) / x) (k : Int) = cutQ (1 / x) (p : Int):=by
  unfold cutQ
  congr 1
  have:=dq_mul 1 (b : Int) 1 (k : Int)
  rw [Int.one_mul, show (b : Int) + (k : Int) = (p : Int) by omega] at this
  rw [this, Rat.div_def, Rat.div_def]
  grind
 have iv : 1 / x * x = 1:=Rat.div_mul_cancel (Rat.ne_of_gt hx)
 have iv1 : 1 / x ≤ 1:=le_of_mul hx (by rw [iv]; grind)
 have iv0 : 0 < 1 / x:=by
  refine Rat.not_le.1 fun hle => ?_
  have:=Rat.mul_le_mul_of_nonneg_right hle (Rat.le_of_lt hx)
  rw [iv] at this
  grind
 have c1:=cut_lo (1 / x) (p : Int)
 have c2:=cut_hi (1 / x) (p : Int)
 have hu:=dq_pos (-(p : Int))
 have one : dq (2 ^ p) (-(p : Int)) = 1:=by rw [dq_scale]; exact two_cast p
 have nn : 0 ≤ cutQ (1 / x) (p : Int):=by
  refine Int.not_lt.1 fun hlt => ?_
  have:=(dq_le_iff (cutQ (1 / x) (p : Int) + 1) 0 (-(p : Int))).2 (by omega)
  rw [dq_succ, dq_zero] at this
  grind
 have up : cutQ (1 / x) (p : Int) ≤ 2 ^ p:=(dq_le_iff _ _ (-(p : Int))).1 (by rw [one]; exact Rat.le_trans c1 iv1)
 have ab : ∀ y : Int, 0 ≤ y → y ≤ 2 ^ p → AbP y p:=fun y h0 h9 => by
  unfold AbP
  have : ((2 ^ p : Nat) : Int) = 2 ^ p:=by push_cast; rfl
  omega
 refine ⟨e1, ab _ nn up, ?_, ?_, ?_, nn⟩
 ·have d1:=cut_lo (-(dq 1 (b : Int) / x)) (k : Int)
  have d2:=cut_hi (-(dq 1 (b : Int) / x)) (k : Int)
  have hb:=dq_pos (b : Int)
  have q1 : dq 1 (b : Int) / x ≤ dq 1 (b : Int):=by
   refine le_of_mul hx ?_
   rw [Rat.div_mul_cancel (Rat.ne_of_gt hx)]
   have:=Rat.mul_le_mul_of_nonneg_left h1 (Rat.le_of_lt hb)
   grind
  have q0 : 0 ≤ dq 1 (b : Int) / x:=by
   refine le_of_mul hx ?_
   rw [Rat.div_mul_cancel (Rat.ne_of_gt hx), Rat.zero_mul]
   exact Rat.le_of_lt hb
  refine ab _ ?_ ?_
  ·have:=(dq_le_iff (cutQ (-(dq 1 (b : Int) / x)) (k : Int)) 0 (-(k : Int))).1 (by rw [dq_zero]; grind)
   omega
  ·have e : dq (-(2 ^ p)) (-(k : Int)) = -dq 1 (b : Int):=by
    rw [dq_neg]
    congr 1
    refine dq_eq (F := -(k : Int)) ?_ (by omega) (by omega)
    rw [show (-(k : Int) - -(k : Int)).toNat = 0 by omega, show ((b : Int) - -(k : Int)).toNat = p by omega]
    simp
   have h9 : dq (-(2 ^ p)) (-(k : Int)) < dq (cutQ (-(dq 1 (b : Int) / x)) (k : Int) + 1) (-(k : Int)):=by
    rw [e, dq_succ]
    grind
   have h8 : ¬ (cutQ (-(dq 1 (b : Int) / x)) (k : Int) + 1 ≤ -(2 ^ p)):=fun h => Rat.not_le.2 h9 ((dq_le_iff _ _ _).2 h)
   omega
 ·have:=Rat.mul_le_mul_of_nonneg_right c1 (Rat.le_of_lt hx)
  rw [iv] at this
  exact this
 ·have:=Rat.mul_le_mul_of_nonneg_right (Rat.le_of_lt c2) (Rat.le_of_lt hx)
  rw [iv] at this
  exact this

theorem lrec_any (M E F : Int) (p : Nat) (vx : Value) (w : World) (hx : IsD w vx M E) (hv : Dv M E) (lm : zl M ≤ 140) (he : -4500 ≤ E ∧ E ≤ 4500) (h1 : 1 ≤ dq M E) (hF : cutQ (1 / dq M E) (p : Int) = F) (hp : p ≤ 4160) (hT : Tab w) :
  Calls Tryz.prog 125 #[vx, .int .i64 (p : Int)] w (RetD8 w (mkM F (-(p : Int))) (mkE F (-(p : Int)))):=by
 obtain ⟨A, c, rfl, _, hn⟩:=hx.form
 have L0:=(Lq.mk0 w).n hn
 obtain ⟨b, hb⟩ : ∃ b : Nat, max ((p : Int) - 4096) 0 = (b : Int):=⟨(max ((p : Int) - 4096) 0).toNat, by omega⟩
 obtain ⟨k, hk⟩ : ∃ k : Nat, (p : Int) - (b : Int) = (k : Int):=⟨((p : Int) - (b : Int)).toNat, by omega⟩
 obtain ⟨r1, r2, r3, _, _, _⟩:=rec_bd h1 (show k + b = p by omega)
 rw [hF] at r1 r2
 have hpm : permB (-(b : Int)) = true:=by
  unfold permB
  rw [decide_eq_true (show (-2048 : Int) ≤ -(b : Int) by omega), decide_eq_true (show -(b : Int) ≤ 8192 by omega)]
  rfl
 obtain ⟨y1, y2, y3⟩:=g_yes hpm 1
 rw [Int.neg_neg] at y1 y2 y3
 have ha1 : AbP 1 0:=by unfold AbP; decide
 obtain ⟨u1, u2, u3, u4, u5⟩:=nx (x:=(b : Int)) ha1 (by omega) (by omega)
 have g1:=fun W (hW : Below w.heap.size w W) => gunit_any (-(b : Int)) W (by omega) (by omega) (hT.mono hW)
 rw [y1, y2, y3, u1] at g1
 obtain ⟨UU, hU⟩:=nm9 (mkM 1 (b : Int))
 obtain ⟨VV, hV⟩:=nm9 (mkE 1 (b : Int))
 rw [hU] at g1 u2 u4 u5
 rw [hV] at g1 u3 u4 u5
 have g2:=fun x W h => i10point_any UU VV x W h (by omega) (by omega) u4
 have g3:=fun x W h => i10point_any M E x W h (by omega) (by omega) hv
 have hwk : workB (k : Int) = true:=by
  unfold workB
  rw [decide_eq_true (show (0 : Int) ≤ (k : Int) by omega), decide_eq_true (show (k : Int) ≤ 4096 by omega)]
  rfl
 have hM0 : 0 < M:=(dq_gt0 M E).1 (by generalize dq M E = q at *; grind)
 have g4:=fun x y W h j (hW : Below w.heap.size w W) => adiv_pos UU VV UU VV M E M E (k : Int) x y W h j (by omega) (by omega) (by omega) (by omega) (by omega) (by omega) (by omega) (by omega) (by rw [dcm_self]; omega) (by rw [dcm_self]; omega) (by omega) (by omega) (hT.mono hW) hwk rfl (by rw [cmpI_gt hM0]; omega) (by rw [cmpI_gt hM0]; omega)
 rw [u5] at g4
 obtain ⟨q, hq⟩:=nm9 (dq 1 (b : Int) / dq M E)
 rw [hq] at r1 r3 g4
 have em : min4 q q q q = q:=by rcases min4_or q q q q with h | h | h | h <;> exact h
 have ex : max4 q q q q = q:=by rcases max4_or q q q q with h | h | h | h <;> exact h
 have z1:=r2.zl
 have z2:=r3.zl
 have hen:=fun W => RetEn.ok (lo:=q) (hi:=q) hwk (z:=3) (by rw [r1]; omega) (by omega) (by omega) Rat.le_refl W
 rw [em, ex] at g4
 simp only [hen] at g4
 unfold enM enE at g4
 rw [r1] at g4
 obtain ⟨f1, f2, f3, f4, f5⟩:=nx (x := -(k : Int)) r2 (by omega) (by omega)
 obtain ⟨d1, d2, d3, d4, d5⟩:=nx (x := -(p : Int)) r2 (by omega) (by omega)
 obtain ⟨X, hX⟩:=nm9 (mkM F (-(k : Int)))
 obtain ⟨Y, hY⟩:=nm9 (mkE F (-(k : Int)))
 rw [hX] at g4 f2 f4 f5
 rw [hY] at g4 f3 f4 f5
 have hr5 : mkR X (Y + -(b : Int)) = 0:=mk_fits9 (by omega) (by omega) (by omega)
 have e5 : mkM X (Y + -(b : Int)) = mkM F (-(p : Int)) ∧ mkE X (Y + -(b : Int)) = mkE F (-(p : Int)):=by
  refine mk_uniq hr5 d1 ?_
  have h9:=dq_mul X Y 1 (-(b : Int))
  rw [Int.mul_one] at h9
  have h8:=dq_mul F (-(k : Int)) 1 (-(b : Int))
  rw [Int.mul_one, show -(k : Int) + -(b : Int) = -(p : Int) by omega] at h8
  rw [h9, f5, h8]
 have g5:=fun x W h (hW : Below w.heap.size w W) => dshift_any X Y (-(b : Int)) x W h (by omega) (by omega) (by omega) (hT.mono hW)
 rw [hr5, e5.1, e5.2] at g5
 have w1 : IntKind.i64.wrap ((p : Int) - 4096) = (p : Int) - 4096:=by rw [IntKind.wrap_i64]; omega
 have w2 : IntKind.i64.wrap (-(b : Int)) = -(b : Int):=by rw [IntKind.wrap_i64]; omega
 have w3 : IntKind.i64.wrap ((p : Int) - (b : Int)) = (k : Int):=by rw [IntKind.wrap_i64]; omega
 clear r1 r2 r3 y1 y2 y3 ha1 u1 u2 u3 u4 u5 hwk hM0 em ex z1 z2 hen f1 f2 f3 f4 f5 d1 d2 d3 d4 d5 hr5 e5 hpm hX hY hU hV hq hk hp hT hF h1 lm he hv hx
 generalize mkM F (-(p : Int)) = Z at *
 generalize mkE F (-(p : Int)) = Q at *
 generalize upM q (k : Int) = UM at *
 generalize upE q (k : Int) = UE at *
 have G1:=Hd9 g1
 have G2:=Hd9 g2
 have G3:=Hd9 g3
 have G4:=Hd9 g4
 have G5:=Hd9 g5
 clear g1 g2 g3 g4 g5
 go_enter Tryz.func125, Tryz.ntmps125
 have L:=((L0.varD (w.heap.size) (by simp) (ng M) A (zl M) c E).varD (w.heap.size + 1) (by simp) false none 0 0 0)
 (try go_wp2_with fail)
 refine (G1.out _ L.below).mono ?_
 rintro e w1 ⟨v9, rfl, iz, be⟩
 obtain ⟨A1, c1, rfl, _, in9⟩:=iz.form
 replace L:=(L.step be).n in9
 clear be iz in9
 have hl9:=L.b0.lt
 replace L:=L.varD w1.heap.size rfl (ng UU) A1 (zl UU) c1 VV
 obtain ⟨c00,c01,c02⟩:=L.b0.a3
 go_wp2_with fail
 clear c00 c01 c02
 obtain ⟨g1, hg1⟩:=nm9 (w1.heap.size)
 rw [hg1] at L hl9 ⊢
 clear hg1
 have hl_g1:=hl9
 clear hl9
 obtain ⟨V, hV, L9⟩:=L.name
 rw [hV]
 clear hV L
 have L:=L9
 clear L9
 have Q0:=Hd9 (fun Z (hZ : Below V.heap.size V Z) => (L.b0.mono hZ).c30)
 have Q1:=Hd9 (fun Z (hZ : Below V.heap.size V Z) => (L.b0.mono hZ).c31)
 have Q2:=Hd9 (fun Z (hZ : Below V.heap.size V Z) => (L.b0.mono hZ).c32)
 have Q3:=Hd9 (fun Z (hZ : Below V.heap.size V Z) => (L.tl.tl.b0.mono hZ).c30)
 have Q4:=Hd9 (fun Z (hZ : Below V.heap.size V Z) => (L.tl.tl.b0.mono hZ).c31)
 have Q5:=Hd9 (fun Z (hZ : Below V.heap.size V Z) => (L.tl.tl.b0.mono hZ).c32)
 have hb0:=L.b0.lt
 have hb1:=L.tl.tl.b0.lt
 have D0 : Dq V V [(.slice A1 (zl UU) c1, (UU : Int).natAbs), (.slice A (zl M) c, (M : Int).natAbs)] [] [] []:=⟨(((Lq.mk0 V).n (L.getN (v:=.slice A (zl M) c) (x:=(M : Int).natAbs) (by simp))).n (L.getN (v:=.slice A1 (zl UU) c1) (x:=(UU : Int).natAbs) (by simp))), List.nodup_nil, fun p hp => by cases hp⟩
 have D:=D0.drew
 have hVw:=L.below.size
 have HVW:=Hd9 (fun Z (hZ : Below V.heap.size V Z) => L.below.trans (hZ.mono hVw))
 have LL:=Hd9 L
 clear L
 obtain ⟨K, hK⟩:=nm9 (V.heap.size)
 have hz0 : K ≤ V.heap.size:=by omega
 have hmd : V.drew.heap.size = K:=hK
 have hc0 : g1 < K:=by omega
 have hc1 : w.heap.size < K:=by omega
 go_cut [8, 9] from 22 to 32 (fun s0 s1 wx => s1 = .int .i64 0 ∧ Made1I V X Y UM UE s0 wx)
 case first =>
  go_region_held3 (fun w' => w'.cell? ⟨g1, 0, none⟩ = some (.bool (ng UU)) ∧ w'.cell? ⟨g1, 1, none⟩ = some (.slice A1 (zl UU) c1) ∧ w'.cell? ⟨g1, 2, none⟩ = some (.int .i64 VV) ∧ w'.cell? ⟨w.heap.size, 0, none⟩ = some (.bool (ng M)) ∧ w'.cell? ⟨w.heap.size, 1, none⟩ = some (.slice A (zl M) c) ∧ w'.cell? ⟨w.heap.size, 2, none⟩ = some (.int .i64 E)) (((try dsimp only); refine ⟨?_, ?_, ?_, ?_, ?_, ?_⟩ <;> (repeat (first | (with_reducible exact Q0.out _ D.lq.below) | (with_reducible exact Q0.out _ D0.lq.below) | (with_reducible exact Q1.out _ D.lq.below) | (with_reducible exact Q1.out _ D0.lq.below) | (with_reducible exact Q2.out _ D.lq.below) | (with_reducible exact Q2.out _ D0.lq.below) | (with_reducible exact Q3.out _ D.lq.below) | (with_reducible exact Q3.out _ D0.lq.below) | (with_reducible exact Q4.out _ D.lq.below) | (with_reducible exact Q4.out _ D0.lq.below) | (with_reducible exact Q5.out _ D.lq.below) | (with_reducible exact Q5.out _ D0.lq.below) | (with_reducible refine c_alloc _ ?_) | (with_reducible refine c_drew ?_) | (with_reducible refine c_set ?_ (by assumption) ?_) | omega)))) (first | (go_at_call 182; (with_reducible refine (G2.out _ _ ?_).mono ?_); (· (first | (with_reducible refine isD_n (D.getN ?_); (repeat (first | (with_reducible exact mS) | apply mT))) | (with_reducible refine isD_n ((D.boxI false none 0 0 0 false none 0 0 0).getN ?_); (repeat (first | (with_reducible exact mS) | apply mT))) | (with_reducible refine isD_n ((D0.boxI false none 0 0 0 false none 0 0 0).drew.getN ?_); (repeat (first | (with_reducible exact mS) | apply mT))))); rintro e9 wh ⟨vh, rfl, ii, be⟩; obtain ⟨A2, c2, B2, d2, rfl, ia, ib⟩:=ii.form; (first | (replace D:=D.step be) | (replace D:=(D.boxMI hmd false none 0 0 0 false none 0 0 0).step be) | (replace D:=(D.boxI false none 0 0 0 false none 0 0 0).step be)); have hz:=be.size; (try simp at hz); replace D:=(D.n ib).n ia; (try (obtain ⟨x00,x01,x02,x03,x04,x05⟩:=D.lq.b0.a6; obtain ⟨y00,y01,y02,y03,y04,y05⟩:=D.lq.b0.f6)); (try obtain ⟨na, nb, nc, nd, nl⟩:=D.n0)) | (go_at_call 182; (with_reducible refine (G3.out _ _ ?_).mono ?_); (· (first | (with_reducible refine isD_n (D.getN ?_); (repeat (first | (with_reducible exact mS) | apply mT))) | (with_reducible refine isD_n ((D.boxI false none 0 0 0 false none 0 0 0).getN ?_); (repeat (first | (with_reducible exact mS) | apply mT))) | (with_reducible refine isD_n ((D0.boxI false none 0 0 0 false none 0 0 0).drew.getN ?_); (repeat (first | (with_reducible exact mS) | apply mT))))); rintro e9 wh ⟨vh, rfl, ii, be⟩; obtain ⟨A3, c3, B3, d3, rfl, ia, ib⟩:=ii.form; (first | (replace D:=D.step be) | (replace D:=(D.boxMI hmd false none 0 0 0 false none 0 0 0).step be) | (replace D:=(D.boxI false none 0 0 0 false none 0 0 0).step be)); have hz:=be.size; (try simp at hz); replace D:=(D.n ib).n ia; (try (obtain ⟨x00,x01,x02,x03,x04,x05⟩:=D.lq.b0.a6; obtain ⟨y00,y01,y02,y03,y04,y05⟩:=D.lq.b0.f6)); (try obtain ⟨na, nb, nc, nd, nl⟩:=D.n0)) | (go_at_call 181; (with_reducible refine (G4.out _ _ _ ?_ ?_ ?_).mono ?_); (· (first | (with_reducible refine isI_n (D.getN ?_) (D.getN ?_) <;> (repeat (first | (with_reducible exact mS) | apply mT))) | (with_reducible refine isI_n ((D.boxI false none 0 0 0 false none 0 0 0).getN ?_) ((D.boxI false none 0 0 0 false none 0 0 0).getN ?_) <;> (repeat (first | (with_reducible exact mS) | apply mT))) | (with_reducible refine isI_n ((D0.boxI false none 0 0 0 false none 0 0 0).drew.getN ?_) ((D0.boxI false none 0 0 0 false none 0 0 0).drew.getN ?_) <;> (repeat (first | (with_reducible exact mS) | apply mT))))); (· (first | (with_reducible refine isI_n (D.getN ?_) (D.getN ?_) <;> (repeat (first | (with_reducible exact mS) | apply mT))) | (with_reducible refine isI_n ((D.boxI false none 0 0 0 false none 0 0 0).getN ?_) ((D.boxI false none 0 0 0 false none 0 0 0).getN ?_) <;> (repeat (first | (with_reducible exact mS) | apply mT))) | (with_reducible refine isI_n ((D0.boxI false none 0 0 0 false none 0 0 0).drew.getN ?_) ((D0.boxI false none 0 0 0 false none 0 0 0).drew.getN ?_) <;> (repeat (first | (with_reducible exact mS) | apply mT))))); (· (first | (with_reducible exact HVW.out _ D.lq.below) | (with_reducible exact HVW.out _ (D.boxI false none 0 0 0 false none 0 0 0).lq.below) | (with_reducible exact HVW.out _ (D0.boxI false none 0 0 0 false none 0 0 0).drew.lq.below))); rintro e9 wh ⟨vh, rfl, ii, be⟩; obtain ⟨A4, c4, B4, d4, rfl, ia, ib⟩:=ii.form; (first | (replace D:=D.step be) | (replace D:=(D.boxMI hmd false none 0 0 0 false none 0 0 0).step be) | (replace D:=(D.boxI false none 0 0 0 false none 0 0 0).step be)); have hz:=be.size; (try simp at hz); replace D:=(D.n ib).n ia; (try (obtain ⟨x00,x01,x02,x03,x04,x05⟩:=D.lq.b0.a6; obtain ⟨y00,y01,y02,y03,y04,y05⟩:=D.lq.b0.f6)); (try obtain ⟨na, nb, nc, nd, nl⟩:=D.n0)))
  all_goals
   go_wp2_with fail
   go_meet
   refine ⟨rfl, ?_⟩
   first
   | ((with_reducible refine made1i_a D ?_ ?_) <;> (repeat (first | (with_reducible exact mS) | apply mT)))
   | ((with_reducible refine made1i_b D ?_ ?_) <;> (repeat (first | (with_reducible exact mS) | apply mT)))
 case rest =>
  obtain ⟨rfl, g2, A5, c5, B5, d5, rfl, hg9, bw, hb9, q1, q2⟩:=hcut
  have L:=(((LL.out.step bw).n q2).n q1).b hb9
  have hl_g2:=hg9
  clear D D0 hmd LL hb9 q1 q2 bw hg9 HVW Q0 Q1 Q2 Q3 Q4 Q5 hc0 hc1
  generalize wc = wd1 at *
  obtain ⟨c00,c01,c02,c03,c04,c05⟩:=L.b0.a6
  (try go_wp2_with fail)
  refine (G5.out _ _ (isD_n (m:=X) (e:=Y) (s:=.slice A5 (zl X) c5) (L.getN (by simp))) L.below).mono ?_
  rintro e w3 ⟨v9, rfl, iz, be⟩
  clear c00 c01 c02 c03 c04 c05
  obtain ⟨A6, c6, rfl, _, in9⟩:=iz.form
  replace L:=(L.step be).n in9
  clear be iz in9
  have hl9:=L.b0.lt
  have L9:=L.subx (ns':=[(.slice A6 (zl Z) c6, Z.natAbs)]) (bs':=[(w.heap.size + 1, 26, #[.bool false, .slice none 0 0, .int .i64 0])]) (by simp) (by simp)
  clear L
  have L:=L9
  clear L9
  have n9 : w.heap.size + 1 ≠ w3.heap.size:=by omega
  obtain ⟨c00,c01,c02⟩:=L.b0.a3
  obtain ⟨f00,f01,f02⟩:=L.b0.f3
  have LN:=L.varD w3.heap.size rfl (ng Z) A6 (zl Z) c6 Q
  obtain ⟨v0,v1,v2⟩:=LN.b0.a3
  obtain ⟨v3,v4,v5⟩:=LN.tl.b0.a3
  obtain ⟨v6,v7,v8⟩:=LN.tl.b0.f3
  go_wp2_with fail
  clear c00 f00 c01 f01 c02 f02
  clear v0 v1 v2 v3 v4 v5 v6 v7 v8
  clear L
  have L:=LN.swap
  clear LN
  have LP:=L.putD (by omega) (by first | (simp; done) | (simp; omega)) (ng Z) A6 (zl Z) c6 (Q)
  obtain ⟨k0,k1,k2⟩:=LP.b0.a3
  unfold put3 at k0 k1 k2
  exact bodyPost_ret (v:=.agg #[.bool (ng Z), .slice A6 (zl Z) c6, .int .i64 (Q)]) (by simp [results, Tryz.results125, go_sem, k0, k1, k2]) rfl ⟨_, rfl, isD_n (LP.getN (by simp)), LP.below⟩
theorem near_bd (q : Rat) (p : Nat) {Mi : Int} (h : (cutQ q ((p : Int) + 1) + 1) / 2 = Mi) : q ≤ dq Mi (-(p : Int)) + dq 1 (-(p : Int)) ∧ dq Mi (-(p : Int)) ≤ q + dq 1 (-(p : Int)):=by
 have c1:=cut_lo q ((p : Int) + 1)
 have c2:=cut_hi q ((p : Int) + 1)
 obtain ⟨c, hc⟩:=nm9 (cutQ q ((p : Int) + 1))
 rw [hc] at h c1 c2
 have e : ∀ X : Int, dq X (-(p : Int)) = dq (2 * X) (-((p : Int) + 1)):=fun X => by
  refine dq_eq (F := -((p : Int) + 1)) ?_ (by omega) (by omega)
  rw [show (-(p : Int) - -((p : Int) + 1)).toNat = 1 by omega, show (-((p : Int) + 1) - -((p : Int) + 1)).toNat = 0 by omega]
  omega
 rw [e Mi, e 1, ← dq_succ] at *
 have hv:=dq_pos (-((p : Int) + 1))
 have h1:=(dq_le_iff (c + 1) (2 * Mi + 1) (-((p : Int) + 1))).2 (by omega)
 have h2:=(dq_le_iff (2 * Mi) (c + 1) (-((p : Int) + 1))).2 (by omega)
 have e2 : dq (2 * 1) (-((p : Int) + 1)) = dq 1 (-((p : Int) + 1)) + dq 1 (-((p : Int) + 1)):=by
  rw [← dq_addI]; rfl
 rw [e2]
 rw [dq_succ] at h1 h2 c2
 rw [dq_succ] at h1
 generalize dq c (-((p : Int) + 1)) = x at *
 generalize dq (2 * Mi) (-((p : Int) + 1)) = y at *
 generalize dq 1 (-((p : Int) + 1)) = v at *
 clear e e2 hc
 constructor <;> grind
theorem abp_in {y : Int} {p : Nat} (h0 : -(2 ^ p) ≤ y) (h : y ≤ 2 ^ p) : AbP y p:=by
 unfold AbP
 have : ((2 ^ p : Nat) : Int) = 2 ^ p:=by push_cast; rfl
 omega
theorem dq_abp {y : Int} {p : Nat} (h0 : -1 ≤ dq y (-(p : Int))) (h : dq y (-(p : Int)) ≤ 1) : AbP y p:=by
 refine abp_in ((dq_le_iff _ _ (-(p : Int))).1 ?_) ((dq_le_iff _ _ (-(p : Int))).1 ?_)
 ·rw [dq_neg, one_p]; exact h0
 ·rw [one_p]; exact h
theorem u1000 {p : Nat} (h : 32 ≤ p) : dq 1 (-(p : Int)) ≤ 1 / 1000:=by
 refine Rat.le_trans (dq_anti (a := -(p : Int)) (b := -10) (by omega)) ?_
 decide +kernel
theorem nxc {T x : Int} {j : Nat} (B : Int) (h : AbP T j) (hj : j ≤ 20000) (hx : -4500 ≤ x ∧ x ≤ 0) (hB0 : 0 ≤ B) (hB : x + (j : Int) + 32 ≤ B) :
  mkR T x = 0 ∧ zl (mkM T x) ≤ j / 32 + 1 ∧ (-4500 ≤ mkE T x ∧ mkE T x ≤ B) ∧ Dv (mkM T x) (mkE T x) ∧ dq (mkM T x) (mkE T x) = dq T x:=by
 obtain ⟨a1, a2, a3, a4, a5⟩:=nx (x:=x) h hj (by omega)
 exact ⟨a1, a2, by omega, a4, a5⟩
theorem nx_one {p : Nat} (hp : p ≤ 5000) : mkM 1 0 = mkM (2 ^ p) (-(p : Int)) ∧ mkE 1 0 = mkE (2 ^ p) (-(p : Int)):=by
 obtain ⟨a1, _⟩:=nx (T:=1) (x:=0) (j:=0) (by unfold AbP; decide) (by omega) (by omega)
 obtain ⟨b1, _⟩:=nx (T:=2 ^ p) (x := -(p : Int)) (j:=p) (abp_in (by have:=pow2_pos p; omega) (Int.le_refl _)) (by omega) (by omega)
 exact mk_uniq a1 b1 (by rw [one_p]; rfl)
theorem nx_sub {s t x : Int} {j : Nat} (h1 : AbP s j) (h2 : AbP t j) (hj : j ≤ 6000) (hx : -6000 ≤ x ∧ x ≤ 100) :
  mkR (addS (mkM s x) (mkE s x) (-(mkM t x)) (mkE t x)) (min (mkE s x) (mkE t x)) = 0 ∧
  mkM (addS (mkM s x) (mkE s x) (-(mkM t x)) (mkE t x)) (min (mkE s x) (mkE t x)) = mkM (s - t) x ∧
  mkE (addS (mkM s x) (mkE s x) (-(mkM t x)) (mkE t x)) (min (mkE s x) (mkE t x)) = mkE (s - t) x:=by
 obtain ⟨a1, a2, a3, a4, a5⟩:=nx (x:=x) h1 (by omega) (by omega)
 obtain ⟨b1, b2, b3, b4, b5⟩:=nx (x:=x) h2 (by omega) (by omega)
 have hn:=zl_neg (mkM t x)
 have hz:=zl_addS (mkM s x) (mkE s x) (-(mkM t x)) (mkE t x) 7500 (by omega) (by omega)
 obtain ⟨c1, _⟩:=nx (x:=x) (h1.add h2.neg) (by omega) (by omega)
 rw [← Int.sub_eq_add_neg] at c1
 have hr : mkR (addS (mkM s x) (mkE s x) (-(mkM t x)) (mkE t x)) (min (mkE s x) (mkE t x)) = 0:=mk_fits9 (by omega) (by omega) (by omega)
 exact ⟨hr, mk_uniq hr c1 (by rw [dq_add, dq_neg, a5, b5, Int.sub_eq_add_neg, dq_addI, dq_neg])⟩
theorem nx_mulk {s t x : Int} {j k : Nat} (h1 : AbP s j) (h2 : AbP t k) (hj : j ≤ 6000) (hk : k ≤ 100) (hx : -6000 ≤ x ∧ x ≤ 100) :
  mkR (mkM s x * mkM t 0) (mkE s x + mkE t 0) = 0 ∧ mkM (mkM s x * mkM t 0) (mkE s x + mkE t 0) = mkM (s * t) x ∧ mkE (mkM s x * mkM t 0) (mkE s x + mkE t 0) = mkE (s * t) x:=by
 obtain ⟨a1, a2, a3, a4, a5⟩:=nx (x:=x) h1 (by omega) (by omega)
 obtain ⟨b1, b2, b3, b4, b5⟩:=nx (x:=0) h2 (by omega) (by omega)
 obtain ⟨c1, _⟩:=nx (x:=x) (h1.mul h2) (by omega) (by omega)
 have hz:=zl_mul (mkM s x) (mkM t 0)
 have hr : mkR (mkM s x * mkM t 0) (mkE s x + mkE t 0) = 0:=mk_fits9 (by omega) (by omega) (by omega)
 exact ⟨hr, mk_uniq hr c1 (by rw [dq_mul, a5, b5, ← dq_mul, Int.add_zero])⟩
theorem nx_dbl {s x : Int} {j : Nat} (h1 : AbP s j) (hj : j ≤ 6000) (hx : -6000 ≤ x ∧ x ≤ 100) : mkR (mkM s x) (mkE s x + 1) = 0 ∧ mkM (mkM s x) (mkE s x + 1) = mkM (2 * s) x ∧ mkE (mkM s x) (mkE s x + 1) = mkE (2 * s) x:=by
 obtain ⟨a1, a2, a3, a4, a5⟩:=nx (x:=x) h1 (by omega) (by omega)
 have h2 : AbP (2 * s) (j + 1):=by
  rw [show 2 * s = s + s by omega]
  exact h1.add h1
 obtain ⟨c1, _⟩:=nx (x:=x) h2 (by omega) (by omega)
 have hr : mkR (mkM s x) (mkE s x + 1) = 0:=mk_fits9 (by omega) (by omega) (by omega)
 refine ⟨hr, mk_uniq hr c1 ?_⟩
 have e1:=dq_mul (mkM s x) (mkE s x) 1 1
 have e2:=dq_mul 2 0 s x
 rw [Int.mul_one] at e1
 rw [Int.zero_add] at e2
 rw [e1, e2, a5, Rat.mul_comm]
 congr 1
structure LgN (q : Rat) (p : Nat) (Mi R Z Q : Int) : Prop where
 mi : (cutQ q ((p : Int) + 1) + 1) / 2 = Mi
 r : cutQ (1 / dq (Mi + 2 ^ p) (-(p : Int))) (p : Int) = R
 z : cutQ (dq (Mi - 2 ^ p) (-(p : Int)) * dq R (-(p : Int))) (p : Int) = Z
 q : cutQ (dq Z (-(p : Int)) * dq Z (-(p : Int))) (p : Int) = Q
structure LgB (q : Rat) (p : Nat) (Mi R Z Q : Int) : Prop where
 d1 : q ≤ dq Mi (-(p : Int)) + dq 1 (-(p : Int))
 d2 : dq Mi (-(p : Int)) ≤ q + dq 1 (-(p : Int))
 r1 : dq R (-(p : Int)) * (dq Mi (-(p : Int)) + 1) ≤ 1
 r2 : 1 ≤ (dq R (-(p : Int)) + dq 1 (-(p : Int))) * (dq Mi (-(p : Int)) + 1)
 z1 : dq Z (-(p : Int)) ≤ (dq Mi (-(p : Int)) - 1) * dq R (-(p : Int))
 z2 : (dq Mi (-(p : Int)) - 1) * dq R (-(p : Int)) ≤ dq Z (-(p : Int)) + dq 1 (-(p : Int))
 z3 : -(1 / 4) ≤ dq Z (-(p : Int))
 z4 : dq Z (-(p : Int)) ≤ 1 / 4
 q1 : dq Q (-(p : Int)) ≤ dq Z (-(p : Int)) * dq Z (-(p : Int))
 q2 : dq Z (-(p : Int)) * dq Z (-(p : Int)) ≤ dq Q (-(p : Int)) + dq 1 (-(p : Int))
 am : AbP Mi (p + 1)
 aA : AbP (Mi + 2 ^ p) (p + 2)
 aB : AbP (Mi - 2 ^ p) (p + 2)
 a1 : 1 ≤ dq (Mi + 2 ^ p) (-(p : Int))
 aR : AbP R p
 aZ : AbP Z p
 q0 : 0 ≤ Q
 q16 : 16 * Q < 2 ^ p
theorem LgN.all {q : Rat} {p : Nat} {Mi R Z Q : Int} (h : LgN q p Mi R Z Q) (hq1 : 3 / 4 ≤ q) (hq2 : q ≤ 3 / 2) (hp : 32 ≤ p) : LgB q p Mi R Z Q:=by
 obtain ⟨h1, h2, h3, h4⟩:=h
 have hu:=dq_pos (-(p : Int))
 have hu1:=u1000 hp
 obtain ⟨d1, d2⟩:=near_bd q p h1
 have eA : dq (Mi + 2 ^ p) (-(p : Int)) = dq Mi (-(p : Int)) + 1:=by rw [dq_addI, one_p]
 have eB : dq (Mi - 2 ^ p) (-(p : Int)) = dq Mi (-(p : Int)) - 1:=by rw [Int.sub_eq_add_neg, dq_addI, dq_neg, one_p, Rat.sub_eq_add_neg]
 have a1 : 1 ≤ dq (Mi + 2 ^ p) (-(p : Int)):=by
  rw [eA]
  generalize dq Mi (-(p : Int)) = x at *
  generalize dq 1 (-(p : Int)) = u at *
  clear h1 h2 h3 h4 eA eB
  grind
 obtain ⟨_, r2, _, r4, r5, r6⟩:=rec_bd (p:=p) (b:=0) (k:=p) a1 (by omega)
 rw [h2] at r2 r4 r5
 rw [eA] at r4 r5
 have z1:=cut_lo (dq (Mi - 2 ^ p) (-(p : Int)) * dq R (-(p : Int))) (p : Int)
 have z2:=cut_hi (dq (Mi - 2 ^ p) (-(p : Int)) * dq R (-(p : Int))) (p : Int)
 rw [h3, eB] at z1 z2
 obtain ⟨z3, z4⟩:=ln_argz4 hq1 hq2 (Rat.le_of_lt hu) hu1 d1 d2 r4 r5 z1 (Rat.le_of_lt z2)
 have q1:=cut_lo (dq Z (-(p : Int)) * dq Z (-(p : Int))) (p : Int)
 have q2:=cut_hi (dq Z (-(p : Int)) * dq Z (-(p : Int))) (p : Int)
 have q0:=cut_nn (rsq_nn (dq Z (-(p : Int)))) (p:=(p : Int))
 rw [h4] at q0 q1 q2
 have zz : dq Z (-(p : Int)) * dq Z (-(p : Int)) ≤ 3 / 50:=by
  generalize dq Z (-(p : Int)) = z at *
  rcases (Rat.le_total : 0 ≤ z ∨ z ≤ 0) with h | h
  ·have:=rmul_le z4 z4 h (by grind)
   grind
  ·have:=rmul_le (a := -z) (b:=121 / 500) (c := -z) (d:=121 / 500) (by grind) (by grind) (by grind) (by grind)
   grind
 have t2 : ∀ y : Int, dq y (-(p : Int)) ≤ 2 → y ≤ 2 * 2 ^ p:=fun y hy => (dq_le_iff _ _ (-(p : Int))).1 (by
  have e : dq (2 * 2 ^ p) (-(p : Int)) = 2:=by
   rw [dq_scale, Rat.intCast_mul, Rat.mul_assoc, two_cast, Rat.mul_one]
   rfl
  rw [e]; exact hy)
 have mb1 : Mi ≤ 2 * 2 ^ p:=t2 Mi (by
  generalize dq Mi (-(p : Int)) = x at *
  generalize dq 1 (-(p : Int)) = u at *
  clear h1 h2 h3 h4 eA eB
  grind)
 have mb0 : 0 ≤ Mi:=(dq_le_iff _ _ (-(p : Int))).1 (by
  rw [dq_zero]
  generalize dq Mi (-(p : Int)) = x at *
  generalize dq 1 (-(p : Int)) = u at *
  clear h1 h2 h3 h4 eA eB
  grind)
 have hp0:=pow2_pos p
 have e1 : (2 : Int) ^ (p + 1) = 2 * 2 ^ p:=by rw [Int.pow_succ, Int.mul_comm]
 have e2 : (2 : Int) ^ (p + 2) = 4 * 2 ^ p:=by rw [Int.pow_succ, Int.pow_succ]; omega
 refine ⟨d1, d2, r4, r5, z1, Rat.le_of_lt z2, by grind, by grind, q1, Rat.le_of_lt q2, abp_in (by omega) (by omega), abp_in (by omega) (by omega), abp_in (by omega) (by omega), a1, r2, dq_abp (by grind) (by grind), q0, ?_⟩
 refine Int.not_le.1 fun hle => ?_
 have h9:=(dq_le_iff _ _ (-(p : Int))).2 hle
 rw [one_p, dq_scale, Rat.intCast_mul, Rat.mul_assoc, ← dq_scale] at h9
 have e : ((16 : Int) : Rat) = 16:=rfl
 rw [e] at h9
 generalize dq Q (-(p : Int)) = x at *
 generalize dq Z (-(p : Int)) * dq Z (-(p : Int)) = y at *
 clear h1 h2 h3 h4 eA eB z1 z2 r4 r5
 grind
def LogOk (m e L : Int) (p : Nat) (S : Int) : Prop:=UpE (dq L (-(p : Int))) 2 → LoE 2 (dq (L + 2) (-(p : Int))) → (spK m e).natAbs ≤ 3000 → UpE (dq (S - 32768) (-(p : Int))) (dq m e) ∧ LoE (dq m e) (dq (S + 32768) (-(p : Int)))
theorem LgB.gs {q : Rat} {p n : Nat} {Mi R Z Q T G : Int} (h : LgB q p Mi R Z Q) (s : SerOk Q p n T) (hp : 32 ≤ p) (hG : cutQ (dq Z (-(p : Int)) * dq T (-(p : Int))) (p : Int) = G) : AbP G p:=by
 have hu:=dq_pos (-(p : Int))
 have hu1:=u1000 hp
 have g1:=cut_lo (dq Z (-(p : Int)) * dq T (-(p : Int))) (p : Int)
 have g2:=cut_hi (dq Z (-(p : Int)) * dq T (-(p : Int))) (p : Int)
 rw [hG] at g1 g2
 have q0:=(dq_le_iff 0 Q (-(p : Int))).2 h.q0
 rw [dq_zero] at q0
 have q16 : dq Q (-(p : Int)) ≤ 1 / 16:=by
  have h1:=(dq_le_iff (16 * Q) (2 ^ p) (-(p : Int))).2 (by have:=h.q16; omega)
  rw [one_p, dq_scale, Rat.intCast_mul, Rat.mul_assoc, ← dq_scale] at h1
  have e : ((16 : Int) : Rat) = 16:=rfl
  rw [e] at h1
  generalize dq Q (-(p : Int)) = x at *
  grind
 have t1:=Rat.le_trans s.up (hr_le q0 q16 n 0)
 have t0:=(dq_le_iff 0 T (-(p : Int))).2 s.t0
 rw [dq_zero] at t0
 have b1:=Rat.mul_le_mul_of_nonneg_right h.z4 t0
 have b2:=Rat.mul_le_mul_of_nonneg_right h.z3 t0
 generalize dq Z (-(p : Int)) * dq T (-(p : Int)) = y at *
 generalize dq T (-(p : Int)) = t at *
 refine dq_abp ?_ ?_
 ·generalize dq G (-(p : Int)) = g at *
  clear hG h s q0 q16
  grind
 ·generalize dq G (-(p : Int)) = g at *
  clear hG h s q0 q16
  grind
theorem lg_ok {m e L : Int} {p n : Nat} {Mi R Z Q T G S : Int} (hm : 0 < m) (h : LgB (dq m (spE m)) p Mi R Z Q) (s : SerOk Q p n T) (hp : 32 ≤ p) (hp2 : p ≤ 4160) (hG : cutQ (dq Z (-(p : Int)) * dq T (-(p : Int))) (p : Int) = G) (hS : S = 2 * G + L * spK m e) : LogOk m e L p S:=by
 intro l1 l2 hk
 have hu:=dq_pos (-(p : Int))
 have hu1:=u1000 hp
 obtain ⟨m1, m2⟩:=sp_bd hm
 have g1:=cut_lo (dq Z (-(p : Int)) * dq T (-(p : Int))) (p : Int)
 have g2:=cut_hi (dq Z (-(p : Int)) * dq T (-(p : Int))) (p : Int)
 rw [hG] at g1 g2
 have q0:=(dq_le_iff 0 Q (-(p : Int))).2 h.q0
 rw [dq_zero] at q0
 have pw:=s.pw (dq Z (-(p : Int)) * dq Z (-(p : Int))) (rsq_nn _) (by rw [dq_succ]; exact h.q2)
 rw [rp_sq] at pw
 have pn : 0 ≤ rp (dq Z (-(p : Int))) (2 * n):=by
  rw [← rp_sq]
  exact rp_nn (rsq_nn _) n
 have hz3:=h.z3
 have hz4:=h.z4
 have hr : rp (dq Z (-(p : Int))) (2 * n + 1) ≤ dq 1 (-(p : Int)) ∧ -dq 1 (-(p : Int)) ≤ rp (dq Z (-(p : Int))) (2 * n + 1):=by
  show rp (dq Z (-(p : Int))) (2 * n) * dq Z (-(p : Int)) ≤ _ ∧ _ ≤ rp (dq Z (-(p : Int))) (2 * n) * dq Z (-(p : Int))
  have b1:=Rat.mul_le_mul_of_nonneg_left hz4 pn
  have b2:=Rat.mul_le_mul_of_nonneg_left hz3 pn
  generalize rp (dq Z (-(p : Int))) (2 * n) = y at *
  generalize dq Z (-(p : Int)) = z at *
  generalize dq 1 (-(p : Int)) = u at *
  clear g1 g2 hG h s q0 l1 l2
  constructor <;> grind
 obtain ⟨x, y⟩:=ln_whole (n:=n) m1 (Rat.le_of_lt m2) (Rat.le_of_lt hu) hu1 h.d1 h.d2 h.r1 h.r2 h.z1 h.z2 q0 h.q1 h.q2 s.up s.lo g1 (Rat.le_of_lt g2) hr.1 hr.2
 have hm0 : 0 < dq m (spE m):=(dq_gt0 _ _).2 hm
 have hn : (n : Rat) ≤ 1041:=by
  have : n ≤ 1041:=by have:=s.n4; omega
  exact_mod_cast this
 have two : ∀ k : Nat, rp 2 k = dq 1 (k : Int):=fun k => by
  have:=rp_two 1 k
  rw [Int.one_mul] at this
  rw [← this]
  rfl
 have eL2 : dq (L + 2) (-(p : Int)) = dq L (-(p : Int)) + 2 * dq 1 (-(p : Int)):=by
  rw [dq_addI]
  congr 1
  rw [dq_scale]
  rfl
 have eC : ∀ c : Int, dq (S + c) (-(p : Int)) = 2 * dq G (-(p : Int)) + (spK m e : Rat) * dq L (-(p : Int)) + (c : Rat) * dq 1 (-(p : Int)):=fun c => by
  rw [hS, dq_addI, dq_addI, dq_scale c, dq_scale (2 * G), dq_scale (L * spK m e), Rat.intCast_mul, Rat.intCast_mul, dq_scale G, dq_scale L]
  have e2 : ((2 : Int) : Rat) = 2:=rfl
  rw [e2]
  grind
 have eD : dq (S - 32768) (-(p : Int)) = 2 * dq G (-(p : Int)) + (spK m e : Rat) * dq L (-(p : Int)) - 32768 * dq 1 (-(p : Int)):=by
  rw [Int.sub_eq_add_neg, eC]
  have : (((-32768 : Int)) : Rat) = -32768:=rfl
  rw [this]
  grind
 have eE:=eC 32768
 have e3 : (((32768 : Int)) : Rat) = 32768:=rfl
 rw [e3] at eE
 rw [eD, eE]
 rw [eL2] at l2
 have hsum:=sp_sum m e
 have hNu : ((n : Rat) + 25) * dq 1 (-(p : Int)) ≤ 1066 * dq 1 (-(p : Int)):=Rat.mul_le_mul_of_nonneg_right (by grind) (Rat.le_of_lt hu)
 rcases Int.le_total 0 (spK m e) with hk0 | hk0
 ·obtain ⟨k, hkk⟩ : ∃ k : Nat, spK m e = (k : Int):=⟨(spK m e).toNat, by omega⟩
  have hkb : (k : Rat) ≤ 3000:=by
   have : k ≤ 3000:=by omega
   exact_mod_cast this
  have hku : (k : Rat) * dq 1 (-(p : Int)) ≤ 3000 * dq 1 (-(p : Int)):=Rat.mul_le_mul_of_nonneg_right hkb (Rat.le_of_lt hu)
  have a1:=ln_red_up x l1 k
  have a2:=ln_red_lo y hm0 l2 k
  have ee : dq m (spE m) * rp 2 k = dq m e:=by
   rw [two, ← dq_mul, Int.mul_one]
   congr 1
   omega
  rw [ee] at a1 a2
  rw [hkk, Rat.intCast_natCast]
  have hpos:=a1.pos
  generalize dq m e = w at *
  generalize dq L (-(p : Int)) = l at *
  generalize dq 1 (-(p : Int)) = u at *
  generalize dq G (-(p : Int)) = g at *
  have x1 : (k : Rat) * (l + 2 * u) = (k : Rat) * l + 2 * ((k : Rat) * u):=by grind
  rw [x1] at a2
  generalize (k : Rat) * l = kl at *
  generalize (k : Rat) * u = ku at *
  generalize ((n : Rat) + 25) * u = nu at *
  exact ⟨a1.mono (by clear a1 a2 x y; grind), a2.mono (by clear a1 a2 x y; grind) (Rat.le_of_lt hpos)⟩
 ·obtain ⟨k, hkk⟩ : ∃ k : Nat, spK m e = -(k : Int):=⟨(-(spK m e)).toNat, by omega⟩
  have hkb : (k : Rat) ≤ 3000:=by
   have : k ≤ 3000:=by omega
   exact_mod_cast this
  have hku : (k : Rat) * dq 1 (-(p : Int)) ≤ 3000 * dq 1 (-(p : Int)):=Rat.mul_le_mul_of_nonneg_right hkb (Rat.le_of_lt hu)
  have a1:=ln_red_up' x l2 k
  have a2:=ln_red_lo' y hm0 l1 k
  have ee : dq m (spE m) * (rp 2 k)⁻¹ = dq m e:=by
   have h1 : dq m e * rp 2 k = dq m (spE m):=by
    rw [two, ← dq_mul, Int.mul_one]
    congr 1
    omega
   have h2 : rp 2 k * (rp 2 k)⁻¹ = 1:=Rat.mul_inv_cancel _ (Rat.ne_of_gt (rp_pos (by decide) k))
   rw [← h1, Rat.mul_assoc, h2, Rat.mul_one]
  rw [ee] at a1 a2
  rw [hkk, Rat.intCast_neg, Rat.intCast_natCast]
  have hpos:=a1.pos
  generalize dq m e = w at *
  generalize dq L (-(p : Int)) = l at *
  generalize dq 1 (-(p : Int)) = u at *
  generalize dq G (-(p : Int)) = g at *
  have x1 : (k : Rat) * (l + 2 * u) = (k : Rat) * l + 2 * ((k : Rat) * u):=by grind
  rw [x1] at a1
  have x2 : -(k : Rat) * l = -((k : Rat) * l):=by grind
  rw [x2]
  generalize (k : Rat) * l = kl at *
  generalize (k : Rat) * u = ku at *
  generalize ((n : Rat) + 25) * u = nu at *
  exact ⟨a1.mono (by clear a1 a2 x y; grind), a2.mono (by clear a1 a2 x y; grind) (Rat.le_of_lt hpos)⟩

theorem odd_dq (kn : Nat) (h : kn ≤ 5000) : AbP (2 * (kn : Int) + 1) 14 ∧ dq (2 * (kn : Int) + 1) 0 = 2 * (kn : Rat) + 1 ∧ (1 : Rat) ≤ 2 * (kn : Rat) + 1:=by
 refine ⟨?_, ?_, ?_⟩
 ·have e : (2 : Nat) ^ 14 = 16384:=by decide
  unfold AbP
  rw [e]
  omega
 ·rw [dq_int]
  push_cast
  rfl
 ·have:=nat_nn kn
  grind

theorem lser_any (Q : Int) (p : Nat) (vx : Value) (w : World) (hx : IsD w vx (mkM Q (-(p : Int))) (mkE Q (-(p : Int)))) (zs K : Nat) (hS : SeP Q p zs K) (hK : (p : Int).tdiv (zs : Int) = (K : Int)) (hz1 : (cmpI (mkM Q (-(p : Int))) 0 == 0) = true → (zs : Int) = (p : Int) + 1) (hz2 : (cmpI (mkM Q (-(p : Int))) 0 == 0) = false → -(topZ (mkM Q (-(p : Int))) (mkE Q (-(p : Int)))) = (zs : Int)) (hp4 : 4 ≤ p) (hp : p ≤ 4160) (hT : Tab w) :
  Calls Tryz.prog 126 #[vx, .int .i64 (p : Int)] w (RetD8 w (mkM (seT Q p zs K (K + 1)) (-(p : Int))) (mkE (seT Q p zs K (K + 1)) (-(p : Int)))):=by
 obtain ⟨A, c, rfl, _, hn⟩:=hx.form
 have L0:=(Lq.mk0 w).n hn
 have HT:=Hd9 (fun W (hW : Below w.heap.size w W) => hT.mono hW)
 have hQb : AbP Q p:=abp_of hS.q0 (by have:=hS.q1; have:=hS.q0; omega)
 obtain ⟨n1, n2, n3, n4, n5⟩:=nx (x := -(p : Int)) hQb (by omega) (by omega)
 have k4:=hS.k4
 have z4:=hS.z4
 have g1:=fun x W h => dtop_any (mkM Q (-(p : Int))) (mkE Q (-(p : Int))) x W h (by omega) (by omega) (dv_zero n4)
 have g2:=fun x W h => dsign_any (mkM Q (-(p : Int))) (mkE Q (-(p : Int))) x W h (by omega)
 obtain ⟨bd1, bd2⟩:=top_rng n4 (by omega) (by omega)
 obtain ⟨tz, htz⟩:=nm9 (topZ (mkM Q (-(p : Int))) (mkE Q (-(p : Int))))
 rw [htz] at g1 hz2 bd1 bd2
 obtain ⟨sg9, hsg9⟩:=nm9 (cmpI (mkM Q (-(p : Int))) 0)
 rw [hsg9] at g2 hz1 hz2
 obtain ⟨bz, hbz⟩:=nm9 ((sg9 == 0))
 rw [hbz] at hz1 hz2
 have HN:=Hd9 (And.intro n2 n3)
 have HQ5:=Hd9 n5
 obtain ⟨M, hM⟩:=nm9 (mkM Q (-(p : Int)))
 obtain ⟨E, hE⟩:=nm9 (mkE Q (-(p : Int)))
 rw [hM] at L0 HN HQ5 ⊢
 rw [hE] at HN HQ5 ⊢
 rw [hM, hE] at g1 g2
 have HZ:=Hd9 (And.intro hz1 hz2)
 have hzs : zs ≤ p + 1:=by rcases hS.zp with h9 | h9 <;> omega
 have w1 : IntKind.i64.wrap (-tz) = -tz:=by rw [IntKind.wrap_i64]; omega
 have w2 : IntKind.i64.wrap ((p : Int) + 1) = (p : Int) + 1:=by rw [IntKind.wrap_i64]; omega
 have w3 : IntKind.i64.wrap (K : Int) = (K : Int):=by rw [IntKind.wrap_i64]; omega
 have hz0 : ¬ (zs : Int) = 0:=by omega
 have HS:=Hd9 hS
 have HP:=Hd9 (And.intro hp4 (And.intro hp (And.intro k4 (And.intro z4 hzs))))
 have G1:=Hd9 g1
 have G2:=Hd9 g2
 clear g1 g2 n1 n2 n3 n4 n5 hS hz1 hz2 hsg9 htz hM hE hQb hx hn hT bd1 bd2 k4 z4
 go_enter Tryz.func126, Tryz.ntmps126
 have L:=((L0.varD (w.heap.size) (by simp) (ng M) A (zl M) c E).varD (w.heap.size + 1) (by simp) false none 0 0 0)
 obtain ⟨c10,c11,c12⟩:=L.tl.b0.a3
 (try go_wp2_with fail)
 refine (G1.out _ _ (isD_n (m:=M) (e:=E) (s:=.slice A (zl M) c) (L.getN (by simp)))).mono ?_
 rintro e w1 ⟨rfl, be⟩
 clear c10 c11 c12
 replace L:=L.step be
 clear be
 obtain ⟨c10,c11,c12⟩:=L.tl.b0.a3
 (try go_wp2_with fail)
 refine (G2.out _ _ (isD_n (m:=M) (e:=E) (s:=.slice A (zl M) c) (L.getN (by simp)))).mono ?_
 rintro e w2 ⟨rfl, be⟩
 clear c10 c11 c12
 replace L:=L.step be
 clear be
 go_upto_if 14 with fail
 go_cut [5] from 15 to 17 (fun s5 wx => s5 = .int .i64 (zs : Int) ∧ Lq w wx [(.slice A (zl M) c, M.natAbs)] [] [] [(w.heap.size + 1, 26, #[.bool false, .slice none 0 0, .int .i64 0]), (w.heap.size, 26, #[.bool (ng M), .slice A (zl M) c, .int .i64 E])])
 case first =>
  cases bz
  ·go_wp2_with fail
   go_meet
   exact ⟨by rw [HZ.out.2 trivial], L⟩
  ·go_wp2_with fail
   go_meet
   exact ⟨by rw [HZ.out.1 trivial], L⟩
 case rest =>
  clear L HZ G1 G2 w1 hbz
  obtain ⟨rfl, L⟩:=hcut
  generalize wc = wd at *
  have hl9:=L.b0.lt
  replace L:=L.varD wd.heap.size rfl false none 0 0 0
  obtain ⟨c00,c01,c02⟩:=L.b0.a3
  go_wp2_with fail
  clear c00 c01 c02
  obtain ⟨gt, hgt⟩:=nm9 (wd.heap.size)
  rw [hgt] at L hl9 ⊢
  clear hgt
  go_loopw [7] (fun i wr => ∃ (j : Nat) (kz T N G : Int) (B : Option Addr) (d : Nat), i = .int .i64 kz ∧ (-1 ≤ kz ∧ kz ≤ (K : Int)) ∧ Lq w wr [(.slice B (zl N) d, N.natAbs), (.slice A (zl M) c, M.natAbs)] [] [] [(gt, 26, #[.bool (ng N), .slice B (zl N) d, .int .i64 G]), (w.heap.size + 1, 26, #[.bool false, .slice none 0 0, .int .i64 0]), (w.heap.size, 26, #[.bool (ng M), .slice A (zl M) c, .int .i64 E])] ∧ Hid (kz = (K : Int) - (j : Int) ∧ seT Q p zs K j = T ∧ mkM T (-((p : Int) - (((K + 1 - j) * zs : Nat) : Int))) = N ∧ mkE T (-((p : Int) - (((K + 1 - j) * zs : Nat) : Int))) = G)) (fun i _ => (intOf i + 1).toNat)
  case atStart =>
   have hx0 : -20000 ≤ -((p : Int) - (((K + 1 - 0) * zs : Nat) : Int)) ∧ -((p : Int) - (((K + 1 - 0) * zs : Nat) : Int)) ≤ 20000:=by
    obtain ⟨_, hp, k4, _, hzs⟩:=HP.out
    have h9:=HS.out.kz
    rw [Nat.sub_zero, Nat.add_mul, Nat.one_mul]
    omega
   refine ⟨0, (K : Int), 0, 0, 0, none, 0, by go_num, by omega, ?_, Hd9 ⟨by omega, rfl, (nx_zero hx0).1, (nx_zero hx0).2⟩⟩
   have zz0 : zl 0 = 0:=zl_zero
   have nn0 : ng 0 = false:=rfl
   rw [zz0, nn0]
   exact (L.n (IsN.zero _)).subx (by simp) (by simp)
  case round =>
   clear L
   obtain ⟨j, kz, T, N, G, B, d, rfl, hkz, L, HJ⟩:=hrel
   have hl0:=L.b0.lt
   obtain ⟨hp4, hp, k4, z4, hzs⟩:=HP.out
   rcases Int.lt_or_le kz 0 with hneg | hpos
   ·have hd : ¬ 0 ≤ kz:=by omega
    obtain ⟨hj, hTj, hM, hE⟩:=HJ.out
    have ej : j = K + 1:=by omega
    subst ej
    rw [show (p : Int) - (((K + 1 - (K + 1)) * zs : Nat) : Int) = (p : Int) by simp] at hM hE
    subst hTj
    clear HJ hj
    have L9:=L.subx (ns':=[(.slice B (zl N) d, N.natAbs)]) (bs':=[(w.heap.size + 1, 26, #[.bool false, .slice none 0 0, .int .i64 0]), (gt, 26, #[.bool (ng N), .slice B (zl N) d, .int .i64 G])]) (by simp) (by simp)
    clear L
    have L:=L9
    clear L9
    obtain ⟨cel00,cel01,cel02⟩:=L.b0.a3
    obtain ⟨f00,f01,f02⟩:=L.b0.f3
    obtain ⟨cel10,cel11,cel12⟩:=L.tl.b0.a3
    (try go_wp2_with fail)
    clear cel00 f00 cel01 f01 cel02 f02 cel10 cel11 cel12
    subst hM hE
    have LP:=L.putD (by omega) (by first | (simp; done) | (simp; omega)) (ng (mkM (seT Q p zs K (K + 1)) (-(p : Int)))) B (zl (mkM (seT Q p zs K (K + 1)) (-(p : Int)))) d (mkE (seT Q p zs K (K + 1)) (-(p : Int)))
    obtain ⟨k0,k1,k2⟩:=LP.b0.a3
    unfold put3 at k0 k1 k2
    exact bodyPost_ret (v:=.agg #[.bool (ng (mkM (seT Q p zs K (K + 1)) (-(p : Int)))), .slice B (zl (mkM (seT Q p zs K (K + 1)) (-(p : Int)))) d, .int .i64 (mkE (seT Q p zs K (K + 1)) (-(p : Int)))]) (by simp [results, Tryz.results126, go_sem, k0, k1, k2]) rfl ⟨_, rfl, isD_n (LP.getN (by simp)), LP.below⟩
   ·obtain ⟨kn, rfl⟩ : ∃ kn : Nat, kz = (kn : Int):=⟨kz.toNat, by omega⟩
    obtain ⟨hj, hTj, hM, hE⟩:=HJ.out
    have hS:=HS.out
    have hjk : j + kn = K:=by omega
    have hI:=seJ_all hS j (by omega)
    have hnx:=se_nd hS hjk
    have hsx : seT Q p zs K (j + 1) = cutQ (dq (seT Q p zs K j) (-((p : Int) - (((K + 1 - j) * zs : Nat) : Int))) * dq Q (-(p : Int))) ((p - (K - j) * zs : Nat) : Int) + cutQ (1 / (2 * ((K - j : Nat) : Rat) + 1)) ((p - (K - j) * zs : Nat) : Int):=rfl
    have hxn : (p : Int) - (((K + 1 - (j + 1)) * zs : Nat) : Int) = ((p - (K - j) * zs : Nat) : Int):=by
     rw [show K + 1 - (j + 1) = K - j by omega]
     rw [show K - j = kn by omega] at hnx ⊢
     omega
    rw [show K - j = kn by omega] at hsx hxn hnx
    rw [hTj] at hI hsx
    obtain ⟨x, hx⟩:=nm9 ((p : Int) - (((K + 1 - j) * zs : Nat) : Int))
    rw [hx] at hI hM hE hsx
    have hky : kn * zs ≤ K * zs:=Nat.mul_le_mul_right _ (by omega)
    have hkz9:=hS.kz
    obtain ⟨nd, hnd⟩ : ∃ nd : Nat, p - kn * zs = nd:=⟨_, rfl⟩
    rw [hnd] at hsx hxn hnx
    obtain ⟨F1, hF1⟩:=nm9 (cutQ (dq T (-x) * dq Q (-(p : Int))) (nd : Int))
    obtain ⟨F2, hF2⟩:=nm9 (cutQ (1 / (2 * (kn : Rat) + 1)) (nd : Int))
    rw [hF1, hF2] at hsx
    obtain ⟨hJ2, a1, a2⟩:=hI.step hS hjk hnx hF1 hF2
    obtain ⟨o1, o2, o3⟩:=odd_dq kn (by omega)
    obtain ⟨hx1, hx2⟩:=hI.rng hS
    obtain ⟨t1, t2, t3, _, t5⟩:=nx (x := -x) (hI.size hS) (by omega) (by omega)
    have hGb : -4500 ≤ mkE T (-x) ∧ mkE T (-x) ≤ 4500:=by
     rcases hI.tx with e9 | e9
     ·rw [e9, (nx_zero (by omega)).2]; omega
     ·omega
    rw [hM] at t2 t5
    rw [hE] at t3 t5 hGb
    obtain ⟨q2, q3⟩:=HN.out
    have q5:=HQ5.out
    have g3:=fun u v W h i (hW : Below w.heap.size w W) => lprod_any N G M E F1 nd u v W h i (by omega) (by omega) (by omega) (by omega) (by rw [t5, q5]; exact hF1) (a1.up (by omega)) (by omega) (HT.out W hW)
    obtain ⟨v1, v2, v3, v4, v5⟩:=nx (x:=0) o1 (by omega) (by omega)
    have g4:=fun W (hW : Below w.heap.size w W) => dof_any (2 * (kn : Int) + 1) W (by omega) (by omega) (HT.out W hW)
    have g5:=fun u W h (hW : Below w.heap.size w W) => lrec_any (mkM (2 * (kn : Int) + 1) 0) (mkE (2 * (kn : Int) + 1) 0) F2 nd u W h v4 (by omega) (by omega) (by rw [v5, o2]; exact o3) (by rw [v5, o2]; exact hF2) (by omega) (HT.out W hW)
    obtain ⟨b1, b2, b3, _, _⟩:=nx (x := -(nd : Int)) a1 (by omega) (by omega)
    obtain ⟨d1, d2, d3, _, _⟩:=nx (x := -(nd : Int)) a2 (by omega) (by omega)
    obtain ⟨s1, s2, s3⟩:=nx_add (x := -(nd : Int)) a1 a2 (by omega) (by omega)
    have g6:=fun u v W h i (hW : Below w.heap.size w W) => dadd_any (mkM F1 (-(nd : Int))) (mkE F1 (-(nd : Int))) (mkM F2 (-(nd : Int))) (mkE F2 (-(nd : Int))) u v W h i (by omega) (by omega) (by omega) (by omega) (HT.out W hW)
    rw [s1, s2, s3] at g6
    obtain ⟨T2, hT2⟩:=nm9 (F1 + F2)
    rw [hT2] at g6 hsx
    obtain ⟨N2, hN2⟩:=nm9 (mkM T2 (-(nd : Int)))
    obtain ⟨K2, hK2⟩:=nm9 (mkE T2 (-(nd : Int)))
    rw [hN2, hK2] at g6
    have HQ:=Hd9 (show (kn : Int) - 1 = (K : Int) - ((j + 1 : Nat) : Int) ∧ seT Q p zs K (j + 1) = T2 ∧ mkM T2 (-((p : Int) - (((K + 1 - (j + 1)) * zs : Nat) : Int))) = N2 ∧ mkE T2 (-((p : Int) - (((K + 1 - (j + 1)) * zs : Nat) : Int))) = K2 from ⟨by omega, hsx, by rw [hxn]; exact hN2, by rw [hxn]; exact hK2⟩)
    obtain ⟨y, hy⟩ : ∃ y : Nat, kn * zs = y:=⟨_, rfl⟩
    have hyi : (kn : Int) * (zs : Int) = (y : Int):=by rw [← hy]; push_cast; rfl
    have w4 : IntKind.i64.wrap ((kn : Int) * (zs : Int)) = (y : Int):=by rw [hyi, IntKind.wrap_i64]; omega
    have w5 : IntKind.i64.wrap ((p : Int) - (y : Int)) = (nd : Int):=by rw [IntKind.wrap_i64]; omega
    have w6 : IntKind.i64.wrap (2 * (kn : Int)) = 2 * (kn : Int):=by rw [IntKind.wrap_i64]; omega
    have w7 : IntKind.i64.wrap (2 * (kn : Int) + 1) = 2 * (kn : Int) + 1:=by rw [IntKind.wrap_i64]; omega
    have w8 : IntKind.i64.wrap ((kn : Int) - 1) = (kn : Int) - 1:=by rw [IntKind.wrap_i64]; omega
    clear hGb hj hI hM hE hS hky hkz9 hF1 hF2 hJ2 hTj hsx hxn hnx hx a1 a2 o1 o2 o3 hx1 hx2 t1 t2 t3 t5 q2 q3 q5 v1 v2 v3 v4 v5 b1 b2 b3 d1 d2 d3 s1 s2 s3 hT2 hN2 hK2 HJ hy hyi hnd
    generalize mkM (2 * (kn : Int) + 1) 0 = Mo at *
    generalize mkE (2 * (kn : Int) + 1) 0 = Eo at *
    generalize mkM F1 (-(nd : Int)) = M3 at *
    generalize mkE F1 (-(nd : Int)) = E3 at *
    generalize mkM F2 (-(nd : Int)) = M5 at *
    generalize mkE F2 (-(nd : Int)) = E5 at *
    have G3:=Hd9 g3
    have G4:=Hd9 g4
    have G5:=Hd9 g5
    have G6:=Hd9 g6
    clear g3 g4 g5 g6
    obtain ⟨cel00,cel01,cel02⟩:=L.b0.a3
    obtain ⟨f00,f01,f02⟩:=L.b0.f3
    obtain ⟨cel20,cel21,cel22⟩:=L.tl.tl.b0.a3
    (try go_wp2_with fail)
    refine (G3.out _ _ _ (isD_n (m:=N) (e:=G) (s:=.slice B (zl N) d) (L.getN (by simp))) (isD_n (m:=M) (e:=E) (s:=.slice A (zl M) c) (L.getN (by simp))) L.below).mono ?_
    rintro e w61 ⟨v9, rfl, iz, be⟩
    clear cel00 f00 cel01 f01 cel02 f02 cel20 cel21 cel22
    obtain ⟨A3, c3, rfl, _, in9⟩:=iz.form
    replace L:=(L.step be).n in9
    clear be iz in9
    (try go_wp2_with fail)
    refine (G4.out _ L.below).mono ?_
    rintro e w62 ⟨v9, rfl, iz, be⟩
    obtain ⟨A4, c4, rfl, _, in9⟩:=iz.form
    replace L:=(L.step be).n in9
    clear be iz in9
    (try go_wp2_with fail)
    refine (G5.out _ _ (isD_n (m:=Mo) (e:=Eo) (s:=.slice A4 (zl Mo) c4) (L.getN (by simp))) L.below).mono ?_
    rintro e w63 ⟨v9, rfl, iz, be⟩
    obtain ⟨A5, c5, rfl, _, in9⟩:=iz.form
    replace L:=(L.step be).n in9
    clear be iz in9
    (try go_wp2_with fail)
    refine (G6.out _ _ _ (isD_n (m:=M3) (e:=E3) (s:=.slice A3 (zl M3) c3) (L.getN (by simp))) (isD_n (m:=M5) (e:=E5) (s:=.slice A5 (zl M5) c5) (L.getN (by simp))) L.below).mono ?_
    rintro e w64 ⟨v9, rfl, iz, be⟩
    obtain ⟨A6, c6, rfl, _, in9⟩:=iz.form
    replace L:=(L.step be).n in9
    clear be iz in9
    obtain ⟨cel00,cel01,cel02⟩:=L.b0.a3
    obtain ⟨f00,f01,f02⟩:=L.b0.f3
    have P:=L.putD (by omega) (by simp; omega) (ng N2) A6 (zl N2) c6 K2
    unfold put3 at P
    go_wp2_with fail
    go_roundw
    case rel => exact ⟨j + 1, (kn : Int) - 1, T2, N2, K2, A6, c6, by go_num, by omega, P.subx (by simp) (by simp), HQ⟩
    case measure => simp [intOf]

theorem lsplit_any (m e : Int) (vx : Value) (w : World) (hx : IsD w vx m e) (hm : 0 < m) (hv : Dv m e) (lm : zl m ≤ 400) (he : -70000 ≤ e ∧ e ≤ 70000) (hT : Tab w) :
  Calls Tryz.prog 41 #[vx] w (RetSK w (spK m e) m (spE m) 0):=by
 obtain ⟨A, c, rfl, _, hn⟩:=hx.form
 have L0:=(Lq.mk0 w).n hn
 obtain ⟨n, hn9⟩:=nm9 (spN m)
 have hnb:=spN_le m
 rw [hn9] at hnb
 have g1:=fun x W h => dvalid_d m e x W h (by omega)
 have hval : (if m = 0 then decide (e = 0) else fits8 m e) = true:=by
  rcases hv with ⟨h9, _⟩ | ⟨_, h9⟩
  ·omega
  ·rw [if_neg (by omega)]; exact h9
 rw [hval] at g1
 have g2:=fun x W h => dsign_any m e x W h (by omega)
 rw [cmpI_gt hm] at g2
 have g3:=fun x W h => dtop_any m e x W h (by omega) (by omega) (by omega)
 have htop : topZ m e = e + (n : Int):=by
  unfold topZ
  rw [if_neg (by omega), ← hn9]
  unfold spN
  omega
 rw [htop] at g3
 obtain ⟨a1, a2, a3⟩:=dv_mk (x := -(n : Int)) (dv_at hv hm (by omega)) (by omega) (by omega)
 have g4:=fun x W h (hW : Below w.heap.size w W) => dmake_any m (-(n : Int)) x W h (by omega) (hT.mono hW)
 rw [a1, a2, a3] at g4
 have z3 : zl 3 ≤ 1:=len_le1 (show 3 < 4294967296 by omega)
 have dv3 : ∀ x : Int, -60000 ≤ x ∧ x ≤ 60000 → Dv 3 x:=fun x hx => dv_at (m:=3) (e:=0) (Or.inr ⟨by decide, by decide +kernel⟩) (by decide) hx
 obtain ⟨b1, b2, b3⟩:=dv_mk (x:=0) (dv3 0 (by omega)) (by omega) (by omega)
 have g5:=fun W (hW : Below w.heap.size w W) => dof_any 3 W (by omega) (by omega) (hT.mono hW)
 rw [b2, b3] at g5
 obtain ⟨d1, d2, d3⟩:=dv_mk (x:=0 + -2) (dv3 _ (by omega)) (by omega) (by omega)
 have g6:=fun x W h (hW : Below w.heap.size w W) => dshift_any 3 0 (-2) x W h (by omega) (by omega) (by omega) (hT.mono hW)
 rw [d1, d2, d3, show (0 : Int) + -2 = -2 from rfl] at g6
 have g7:=fun x y W h j => dcmp_any m (-(n : Int)) 3 (-2) x y W h j (by omega) (by omega) (by omega) (by omega)
 have hlt:=dcm_lt m (-(n : Int)) 3 (-2)
 rw [show cmpI (m * 2 ^ (-(n : Int) - min (-(n : Int)) (-2)).toNat) (3 * 2 ^ (-2 - min (-(n : Int)) (-2)).toNat) = dcm m (-(n : Int)) 3 (-2) from rfl] at g7
 have hlt2 : dq m (-(n : Int)) < dq 3 (-2) ↔ 4 * m < 3 * 2 ^ n:=by
  have e1 : dq m (-(n : Int)) = dq (4 * m) (-(n : Int) - 2):=by
   refine dq_eq (F := -(n : Int) - 2) ?_ (by omega) (by omega)
   rw [show (-(n : Int) - (-(n : Int) - 2)).toNat = 2 by omega, show (-(n : Int) - 2 - (-(n : Int) - 2)).toNat = 0 by omega]
   omega
  have e2 : dq 3 (-2) = dq (3 * 2 ^ n) (-(n : Int) - 2):=by
   refine dq_eq (F := -(n : Int) - 2) ?_ (by omega) (by omega)
   rw [show (-2 - (-(n : Int) - 2)).toNat = n by omega, show (-(n : Int) - 2 - (-(n : Int) - 2)).toNat = 0 by omega]
   simp
  rw [e1, e2]
  constructor
  ·intro h
   refine Int.not_le.1 fun hle => Rat.not_le.2 h ((dq_le_iff _ _ _).2 hle)
  ·intro h
   refine Rat.not_le.1 fun hle => ?_
   have:=(dq_le_iff _ _ _).1 hle
   omega
 rw [hlt2] at hlt
 generalize dcm m (-(n : Int)) 3 (-2) = cm at *
 obtain ⟨k1, k2, k3⟩:=dv_mk (x := -(n : Int) + 1) (dv_at hv hm (by omega)) (by omega) (by omega)
 have g8:=fun x W h (hW : Below w.heap.size w W) => dshift_any m (-(n : Int)) 1 x W h (by omega) (by omega) (by omega) (hT.mono hW)
 rw [k1, k2, k3] at g8
 have w1 : IntKind.i64.wrap (e - (e + (n : Int))) = -(n : Int):=by rw [IntKind.wrap_i64]; omega
 have w2 : IntKind.i64.wrap (e + (n : Int) - 1) = e + (n : Int) - 1:=by rw [IntKind.wrap_i64]; omega
 have hres : (cm < 0 → spK m e = e + (n : Int) - 1 ∧ spE m = -(n : Int) + 1) ∧ (0 ≤ cm → spK m e = e + (n : Int) ∧ spE m = -(n : Int)):=by
  unfold spK spE spB
  rw [hn9]
  refine ⟨fun h => ?_, fun h => ?_⟩
  ·rw [decide_eq_true (hlt.1 h), if_pos rfl, if_pos rfl]; omega
  ·rw [decide_eq_false (fun h9 => by have:=hlt.2 h9; omega), if_neg (by decide), if_neg (by decide)]; omega
 have HR:=Hd9 hres
 clear hres hlt hlt2 k1 k2 k3 a1 a2 a3 b1 b2 b3 d1 d2 d3 z3 dv3 htop hval hnb hn9 hx hm hv lm hn hT he
 have G1:=Hd9 g1
 have G2:=Hd9 g2
 have G3:=Hd9 g3
 have G4:=Hd9 g4
 have G5:=Hd9 g5
 have G6:=Hd9 g6
 have G7:=Hd9 g7
 have G8:=Hd9 g8
 clear g1 g2 g3 g4 g5 g6 g7 g8
 rcases Int.lt_or_le cm 0 with hcm | hcm
 ·have d9 : decide (cm < 0) = true:=decide_eq_true hcm
  obtain ⟨r1, r2⟩:=HR.out.1 hcm
  rw [r1, r2]
  clear HR r1 r2
  obtain ⟨e9, he9⟩:=nm9 (-(n : Int) + 1)
  obtain ⟨k9, hk9⟩:=nm9 (e + (n : Int) - 1)
  have w3 : IntKind.i64.wrap (e + (n : Int) - 1) = k9:=w2.trans hk9
  have g8:=G8.out
  rw [he9] at g8 ⊢
  rw [hk9]
  clear G8 w2 hk9 he9
  have G8:=Hd9 g8
  clear g8
  go_enter Tryz.func41, Tryz.ntmps41
  have L:=((L0.varD (w.heap.size) (by simp) (ng m) A (zl m) c e).varD (w.heap.size + 1) (by simp) false none 0 0 0)
  obtain ⟨c10,c11,c12⟩:=L.tl.b0.a3
  (try go_wp2_with fail)
  refine (G1.out _ _ (isD_n (m:=m) (e:=e) (s:=.slice A (zl m) c) (L.getN (by simp)))).mono ?_
  rintro e w1 ⟨rfl, be⟩
  clear c10 c11 c12
  replace L:=L.step be
  clear be
  obtain ⟨c10,c11,c12⟩:=L.tl.b0.a3
  (try go_wp2_with fail)
  refine (G2.out _ _ (isD_n (m:=m) (e:=e) (s:=.slice A (zl m) c) (L.getN (by simp)))).mono ?_
  rintro e w2 ⟨rfl, be⟩
  clear c10 c11 c12
  replace L:=L.step be
  clear be
  obtain ⟨c10,c11,c12⟩:=L.tl.b0.a3
  (try go_wp2_with fail)
  refine (G3.out _ _ (isD_n (m:=m) (e:=e) (s:=.slice A (zl m) c) (L.getN (by simp)))).mono ?_
  rintro e w3 ⟨rfl, be⟩
  clear c10 c11 c12
  replace L:=L.step be
  clear be
  obtain ⟨c10,c11,c12⟩:=L.tl.b0.a3
  (try go_wp2_with fail)
  refine (G4.out _ _ ⟨_, rfl, L.getN (by simp)⟩ L.below).mono ?_
  rintro e w4 ⟨v9, rfl, iz, be⟩
  clear c10 c11 c12
  obtain ⟨A1, c1, rfl, _, in9⟩:=iz.form
  replace L:=(L.step be).n in9
  clear be iz in9
  have hl9:=L.b0.lt
  replace L:=L.varD w4.heap.size rfl (ng m) A1 (zl m) c1 (-(n : Int))
  obtain ⟨c00,c01,c02⟩:=L.b0.a3
  go_wp2_with fail
  clear c00 c01 c02
  obtain ⟨g1, hg1⟩:=nm9 (w4.heap.size)
  rw [hg1] at L hl9 ⊢
  clear hg1
  have hl_g1:=hl9
  clear hl9
  refine (G5.out _ L.below).mono ?_
  rintro e w5 ⟨v9, rfl, iz, be⟩
  obtain ⟨A2, c2, rfl, _, in9⟩:=iz.form
  replace L:=(L.step be).n in9
  clear be iz in9
  (try go_wp2_with fail)
  refine (G6.out _ _ (isD_n (m:=3) (e:=0) (s:=.slice A2 (zl 3) c2) (L.getN (by simp))) L.below).mono ?_
  rintro e w6 ⟨v9, rfl, iz, be⟩
  obtain ⟨A3, c3, rfl, _, in9⟩:=iz.form
  replace L:=(L.step be).n in9
  clear be iz in9
  have hl9:=L.b0.lt
  replace L:=L.varD w6.heap.size rfl (ng 3) A3 (zl 3) c3 (-2)
  obtain ⟨c00,c01,c02⟩:=L.b0.a3
  obtain ⟨c10,c11,c12⟩:=L.tl.b0.a3
  go_wp2_with fail
  clear c00 c01 c02 c10 c11 c12
  obtain ⟨g2, hg2⟩:=nm9 (w6.heap.size)
  rw [hg2] at L hl9 ⊢
  clear hg2
  have hl_g2:=hl9
  clear hl9
  refine (G7.out _ _ _ (isD_n (m:=m) (e:=(-(n : Int))) (s:=.slice A1 (zl m) c1) (L.getN (by simp))) (isD_n (m:=3) (e:=(-2)) (s:=.slice A3 (zl 3) c3) (L.getN (by simp)))).mono ?_
  rintro e w7 ⟨rfl, be⟩
  replace L:=L.step be
  clear be
  obtain ⟨c10,c11,c12⟩:=L.tl.b0.a3
  (try go_wp2_with fail)
  refine (G8.out _ _ (isD_n (m:=m) (e:=(-(n : Int))) (s:=.slice A1 (zl m) c1) (L.getN (by simp))) L.below).mono ?_
  rintro e w8 ⟨v9, rfl, iz, be⟩
  clear c10 c11 c12
  obtain ⟨A4, c4, rfl, _, in9⟩:=iz.form
  replace L:=(L.step be).n in9
  clear be iz in9
  replace L:=L.swap
  obtain ⟨c00,c01,c02⟩:=L.b0.a3
  obtain ⟨f00,f01,f02⟩:=L.b0.f3
  have P:=L.putD (by omega) (by simp; omega) (ng m) A4 (zl m) c4 e9
  obtain ⟨p0,p1,p2⟩:=P.b0.a3
  unfold put3 at p0 p1 p2 P
  go_wp2_with fail
  replace L:=P
  clear P p0 p1 p2
  clear c00 f00 c01 f01 c02 f02
  have n9 : w.heap.size + 1 ≠ g1:=by omega
  have L9:=L.subx (ns':=[(.slice A4 (zl m) c4, m.natAbs)]) (bs':=[(w.heap.size + 1, 26, #[.bool false, .slice none 0 0, .int .i64 0]), (g1, 26, #[.bool (ng m), .slice A4 (zl m) c4, .int .i64 e9])]) (by simp) (by simp)
  clear L
  have L:=L9
  clear L9
  obtain ⟨c00,c01,c02⟩:=L.b0.a3
  obtain ⟨f00,f01,f02⟩:=L.b0.f3
  obtain ⟨c10,c11,c12⟩:=L.tl.b0.a3
  (try go_wp2_with fail)
  go_region
  all_goals (try go_wp2_with fail)
  clear c00 f00 c01 f01 c02 f02 c10 c11 c12
  all_goals
   have LP:=(L.putD (by omega) (by first | (simp; done) | (simp; omega)) (ng m) A4 (zl m) c4 e9).drew
   unfold put3 at LP
   obtain ⟨k0,k1,k2⟩:=LP.b0.a3
   exact bodyPost_ret (v:=.tuple #[.int .i64 k9, .agg #[.bool (ng m), .slice A4 (zl m) c4, .int .i64 e9], .int .i64 0]) (by simp [results, Tryz.results41, go_sem, k0, k1, k2]) rfl ⟨_, rfl, isD_n (LP.getN (by simp)), LP.below⟩
 ·have d9 : decide (cm < 0) = false:=decide_eq_false (by omega)
  obtain ⟨r1, r2⟩:=HR.out.2 hcm
  rw [r1, r2]
  clear HR r1 r2
  go_enter Tryz.func41, Tryz.ntmps41
  have L:=((L0.varD (w.heap.size) (by simp) (ng m) A (zl m) c e).varD (w.heap.size + 1) (by simp) false none 0 0 0)
  obtain ⟨c10,c11,c12⟩:=L.tl.b0.a3
  (try go_wp2_with fail)
  refine (G1.out _ _ (isD_n (m:=m) (e:=e) (s:=.slice A (zl m) c) (L.getN (by simp)))).mono ?_
  rintro e w1 ⟨rfl, be⟩
  clear c10 c11 c12
  replace L:=L.step be
  clear be
  obtain ⟨c10,c11,c12⟩:=L.tl.b0.a3
  (try go_wp2_with fail)
  refine (G2.out _ _ (isD_n (m:=m) (e:=e) (s:=.slice A (zl m) c) (L.getN (by simp)))).mono ?_
  rintro e w2 ⟨rfl, be⟩
  clear c10 c11 c12
  replace L:=L.step be
  clear be
  obtain ⟨c10,c11,c12⟩:=L.tl.b0.a3
  (try go_wp2_with fail)
  refine (G3.out _ _ (isD_n (m:=m) (e:=e) (s:=.slice A (zl m) c) (L.getN (by simp)))).mono ?_
  rintro e w3 ⟨rfl, be⟩
  clear c10 c11 c12
  replace L:=L.step be
  clear be
  obtain ⟨c10,c11,c12⟩:=L.tl.b0.a3
  (try go_wp2_with fail)
  refine (G4.out _ _ ⟨_, rfl, L.getN (by simp)⟩ L.below).mono ?_
  rintro e w4 ⟨v9, rfl, iz, be⟩
  clear c10 c11 c12
  obtain ⟨A1, c1, rfl, _, in9⟩:=iz.form
  replace L:=(L.step be).n in9
  clear be iz in9
  have hl9:=L.b0.lt
  replace L:=L.varD w4.heap.size rfl (ng m) A1 (zl m) c1 (-(n : Int))
  obtain ⟨c00,c01,c02⟩:=L.b0.a3
  go_wp2_with fail
  clear c00 c01 c02
  obtain ⟨g1, hg1⟩:=nm9 (w4.heap.size)
  rw [hg1] at L hl9 ⊢
  clear hg1
  have hl_g1:=hl9
  clear hl9
  refine (G5.out _ L.below).mono ?_
  rintro e w5 ⟨v9, rfl, iz, be⟩
  obtain ⟨A2, c2, rfl, _, in9⟩:=iz.form
  replace L:=(L.step be).n in9
  clear be iz in9
  (try go_wp2_with fail)
  refine (G6.out _ _ (isD_n (m:=3) (e:=0) (s:=.slice A2 (zl 3) c2) (L.getN (by simp))) L.below).mono ?_
  rintro e w6 ⟨v9, rfl, iz, be⟩
  obtain ⟨A3, c3, rfl, _, in9⟩:=iz.form
  replace L:=(L.step be).n in9
  clear be iz in9
  have hl9:=L.b0.lt
  replace L:=L.varD w6.heap.size rfl (ng 3) A3 (zl 3) c3 (-2)
  obtain ⟨c00,c01,c02⟩:=L.b0.a3
  obtain ⟨c10,c11,c12⟩:=L.tl.b0.a3
  go_wp2_with fail
  clear c00 c01 c02 c10 c11 c12
  obtain ⟨g2, hg2⟩:=nm9 (w6.heap.size)
  rw [hg2] at L hl9 ⊢
  clear hg2
  have hl_g2:=hl9
  clear hl9
  refine (G7.out _ _ _ (isD_n (m:=m) (e:=(-(n : Int))) (s:=.slice A1 (zl m) c1) (L.getN (by simp))) (isD_n (m:=3) (e:=(-2)) (s:=.slice A3 (zl 3) c3) (L.getN (by simp)))).mono ?_
  rintro e w7 ⟨rfl, be⟩
  replace L:=L.step be
  clear be
  replace L:=L.swap
  have n9 : w.heap.size + 1 ≠ g1:=by omega
  have L9:=L.subx (ns':=[(.slice A1 (zl m) c1, m.natAbs)]) (bs':=[(w.heap.size + 1, 26, #[.bool false, .slice none 0 0, .int .i64 0]), (g1, 26, #[.bool (ng m), .slice A1 (zl m) c1, .int .i64 (-(n : Int))])]) (by simp) (by simp)
  clear L
  have L:=L9
  clear L9
  obtain ⟨c00,c01,c02⟩:=L.b0.a3
  obtain ⟨f00,f01,f02⟩:=L.b0.f3
  obtain ⟨c10,c11,c12⟩:=L.tl.b0.a3
  (try go_wp2_with fail)
  go_region
  all_goals (try go_wp2_with fail)
  clear c00 f00 c01 f01 c02 f02 c10 c11 c12
  all_goals
   have LP:=(L.putD (by omega) (by first | (simp; done) | (simp; omega)) (ng m) A1 (zl m) c1 (-(n : Int))).drew
   unfold put3 at LP
   obtain ⟨k0,k1,k2⟩:=LP.b0.a3
   exact bodyPost_ret (v:=.tuple #[.int .i64 (e + (n : Int)), .agg #[.bool (ng m), .slice A1 (zl m) c1, .int .i64 (-(n : Int))], .int .i64 0]) (by simp [results, Tryz.results41, go_sem, k0, k1, k2]) rfl ⟨_, rfl, isD_n (LP.getN (by simp)), LP.below⟩
def RetLog (w : World) (m e L : Int) (j p : Nat) (en : Ending) (w' : World) : Prop:=∃ S, LogOk m e L p S ∧ AbP S (j + 15) ∧ RetD8 w (mkM S (-(p : Int))) (mkE S (-(p : Int))) en w'

theorem llog_any (m e L : Int) (j p : Nat) (vx vl : Value) (w : World) (hx : IsD w vx m e) (hl : IsD w vl (mkM L (-(p : Int))) (mkE L (-(p : Int)))) (hm : 0 < m) (hv : Dv m e) (lm : zl m ≤ 100) (he : -9000 ≤ e ∧ e ≤ 9000) (hL : AbP L j) (hj1 : p + 3 ≤ j) (hj : j ≤ 5000) (hp32 : 32 ≤ p) (hp : p ≤ 4160) (hT : Tab w) :
  Calls Tryz.prog 53 #[vx, vl, .int .i64 (p : Int)] w (RetLog w m e L j p):=by
 obtain ⟨A, c, rfl, _, hn⟩:=hx.form
 obtain ⟨B, d, rfl, _, hn2⟩:=hl.form
 have L0:=((Lq.mk0 w).n hn2).n hn
 obtain ⟨rx1, rx2, rk1, rk2⟩:=sp_rng (m:=m) (e:=e) lm
 obtain ⟨mb1, mb2⟩:=sp_bd hm
 have hvx:=dv_at hv hm (x:=spE m) (by omega)
 have g1:=fun x W h (hW : Below w.heap.size w W) => lsplit_any m e x W h hm hv (by omega) (by omega) (hT.mono hW)
 obtain ⟨Mi, hMi⟩:=nm9 ((cutQ (dq m (spE m)) ((p : Int) + 1) + 1) / 2)
 obtain ⟨R, hR⟩:=nm9 (cutQ (1 / dq (Mi + 2 ^ p) (-(p : Int))) (p : Int))
 obtain ⟨Z, hZ⟩:=nm9 (cutQ (dq (Mi - 2 ^ p) (-(p : Int)) * dq R (-(p : Int))) (p : Int))
 obtain ⟨Q, hQ⟩:=nm9 (cutQ (dq Z (-(p : Int)) * dq Z (-(p : Int))) (p : Int))
 have hB:=LgN.all ⟨hMi, hR, hZ, hQ⟩ mb1 (Rat.le_of_lt mb2) hp32
 obtain ⟨zs, K, hS, hK, hz1, hz2⟩:=ser_zs hB.q0 hB.q16 (by omega) (by omega)
 have hser:=ser_ok hS
 obtain ⟨T, hTd⟩:=nm9 (seT Q p zs K (K + 1))
 rw [hTd] at hser
 obtain ⟨G, hG⟩:=nm9 (cutQ (dq Z (-(p : Int)) * dq T (-(p : Int))) (p : Int))
 have aG:=hB.gs hser hp32 hG
 obtain ⟨S, hSd⟩:=nm9 (2 * G + L * spK m e)
 have hok : LogOk m e L p S:=lg_ok hm hB hser hp32 hp hG hSd.symm
 have aQ : AbP Q p:=abp_of hB.q0 (by have:=hB.q16; have:=hB.q0; omega)
 have aM:=hB.am
 have aA:=hB.aA
 have aB:=hB.aB
 have aR:=hB.aR
 have aZ:=hB.aZ
 have aT:=hser.sz
 have aK : AbP (spK m e) 14:=by
  have e14 : (2 : Nat) ^ 14 = 16384:=by decide
  unfold AbP
  rw [e14]
  omega
 have aH : AbP (2 * G) (j + 14):=by
  have:=(aG.add aG).up (show p + 1 ≤ j + 14 by omega)
  rwa [show G + G = 2 * G by omega] at this
 have aX:=hL.mul aK
 have aS:=aH.add aX
 rw [hSd] at aS
 have hpc : -4500 ≤ -(p : Int) ∧ -(p : Int) ≤ 0:=by omega
 have hpy : -6000 ≤ -(p : Int) ∧ -(p : Int) ≤ 100:=by omega
 have hpm:=permN (p:=p) (by omega)
 -- contracts
 have g2:=fun x W h (hW : Below w.heap.size w W) => gnear_any m (spE m) (p : Int) x W h (by omega) (by omega) (by omega) (by omega) (hT.mono hW)
 obtain ⟨y1, y2, y3⟩:=g_yes hpm Mi
 obtain ⟨i1, i2, i3, _, i5⟩:=nxc 100 aM (by omega) hpc (by omega) (by omega)
 rw [hMi, y1, y2, y3, i1] at g2
 have g3:=fun W (hW : Below w.heap.size w W) => dof_any 1 W (by omega) (by omega) (hT.mono hW)
 obtain ⟨o1, o2⟩:=nx_one (p:=p) (by omega)
 rw [o1, o2] at g3
 have a2p : AbP (2 ^ p) (p + 1):=(abp_in (by have:=pow2_pos p; omega) (Int.le_refl _)).up (by omega)
 obtain ⟨p1, p2, p3, _, _⟩:=nxc 100 a2p (by omega) hpc (by omega) (by omega)
 have g4:=fun x y W h k (hW : Below w.heap.size w W) => dsub_any (mkM Mi (-(p : Int))) (mkE Mi (-(p : Int))) (mkM (2 ^ p) (-(p : Int))) (mkE (2 ^ p) (-(p : Int))) x y W h k (by omega) (by omega) (by omega) (by omega) (hT.mono hW)
 obtain ⟨s1, s2, s3⟩:=nx_sub aM a2p (by omega) hpy
 rw [s1, s2, s3] at g4
 have g5:=fun x y W h k (hW : Below w.heap.size w W) => dadd_any (mkM Mi (-(p : Int))) (mkE Mi (-(p : Int))) (mkM (2 ^ p) (-(p : Int))) (mkE (2 ^ p) (-(p : Int))) x y W h k (by omega) (by omega) (by omega) (by omega) (hT.mono hW)
 obtain ⟨t1, t2, t3⟩:=nx_add aM a2p (by omega) hpy
 rw [t1, t2, t3] at g5
 obtain ⟨A1, A2, A3, A4, A5⟩:=nxc 100 aA (by omega) hpc (by omega) (by omega)
 obtain ⟨B1, B2, B3, B4, B5⟩:=nxc 100 aB (by omega) hpc (by omega) (by omega)
 obtain ⟨R1, R2, R3, R4, R5⟩:=nxc 100 aR (by omega) hpc (by omega) (by omega)
 obtain ⟨Z1, Z2, Z3, Z4, Z5⟩:=nxc 100 aZ (by omega) hpc (by omega) (by omega)
 obtain ⟨Q1, Q2, Q3, Q4, Q5⟩:=nxc 100 aQ (by omega) hpc (by omega) (by omega)
 obtain ⟨T1, T2, T3, T4, T5⟩:=nxc 100 aT (by omega) hpc (by omega) (by omega)
 obtain ⟨C1, C2, C3, C4, C5⟩:=nxc 100 aG (by omega) hpc (by omega) (by omega)
 obtain ⟨H1, H2, H3, H4, H5⟩:=nxc 10000 aH (by omega) hpc (by omega) (by omega)
 obtain ⟨L1, L2, L3, L4, L5⟩:=nxc 10000 hL (by omega) hpc (by omega) (by omega)
 obtain ⟨K1, K2, K3, K4, K5⟩:=nxc 100 (x:=0) aK (by omega) (by omega) (by omega) (by omega)
 obtain ⟨X1, X2, X3, X4, X5⟩:=nxc 10000 aX (by omega) hpc (by omega) (by omega)
 have g6:=fun x W h (hW : Below w.heap.size w W) => lrec_any (mkM (Mi + 2 ^ p) (-(p : Int))) (mkE (Mi + 2 ^ p) (-(p : Int))) R p x W h A4 (by omega) (by omega) (by rw [A5]; exact hB.a1) (by rw [A5]; exact hR) hp (hT.mono hW)
 have g7:=fun x y W h k (hW : Below w.heap.size w W) => lprod_any (mkM (Mi - 2 ^ p) (-(p : Int))) (mkE (Mi - 2 ^ p) (-(p : Int))) (mkM R (-(p : Int))) (mkE R (-(p : Int))) Z p x y W h k (by omega) (by omega) (by omega) (by omega) (by rw [B5, R5]; exact hZ) (aZ.up (by omega)) (by omega) (hT.mono hW)
 have g8:=fun x y W h k (hW : Below w.heap.size w W) => lprod_any (mkM Z (-(p : Int))) (mkE Z (-(p : Int))) (mkM Z (-(p : Int))) (mkE Z (-(p : Int))) Q p x y W h k (by omega) (by omega) (by omega) (by omega) (by rw [Z5]; exact hQ) (aQ.up (by omega)) (by omega) (hT.mono hW)
 have g9:=fun x W h (hW : Below w.heap.size w W) => lser_any Q p x W h zs K hS hK hz1 hz2 (by omega) hp (hT.mono hW)
 rw [hTd] at g9
 have g10:=fun x y W h k (hW : Below w.heap.size w W) => lprod_any (mkM Z (-(p : Int))) (mkE Z (-(p : Int))) (mkM T (-(p : Int))) (mkE T (-(p : Int))) G p x y W h k (by omega) (by omega) (by omega) (by omega) (by rw [Z5, T5]; exact hG) (aG.up (by omega)) (by omega) (hT.mono hW)
 have g11:=fun x W h (hW : Below w.heap.size w W) => dshift_any (mkM G (-(p : Int))) (mkE G (-(p : Int))) 1 x W h (by omega) (by omega) (by omega) (hT.mono hW)
 obtain ⟨d1, d2, d3⟩:=nx_dbl aG (by omega) hpy
 rw [d1, d2, d3] at g11
 have g12:=fun W (hW : Below w.heap.size w W) => dof_any (spK m e) W (by omega) (by omega) (hT.mono hW)
 have g13:=fun x y W h k (hW : Below w.heap.size w W) => dmul_any (mkM L (-(p : Int))) (mkE L (-(p : Int))) (mkM (spK m e) 0) (mkE (spK m e) 0) x y W h k (by omega) (by omega) (by omega) (by omega) (hT.mono hW)
 obtain ⟨v1, v2, v3⟩:=nx_mulk hL aK (by omega) (by omega) hpy
 rw [v1, v2, v3] at g13
 have g14:=fun x y W h k (hW : Below w.heap.size w W) => dadd_any (mkM (2 * G) (-(p : Int))) (mkE (2 * G) (-(p : Int))) (mkM (L * spK m e) (-(p : Int))) (mkE (L * spK m e) (-(p : Int))) x y W h k (by omega) (by omega) (by omega) (by omega) (hT.mono hW)
 obtain ⟨x1, x2, x3⟩:=nx_add aH aX (by omega) hpy
 rw [x1, x2, x3, hSd] at g14
 clear hpc y1 y2 y3 i1 i2 i3 i5 o1 o2 p1 p2 p3 s1 s2 s3 t1 t2 t3 d1 d2 d3 v1 v2 v3 x1 x2 x3 A1 A2 A3 A4 A5 B1 B2 B3 B4 B5 R1 R2 R3 R4 R5 Z1 Z2 Z3 Z4 Z5 Q1 Q2 Q3 Q4 Q5 T1 T2 T3 T4 T5 C1 C2 C3 C4 C5 H1 H2 H3 H4 H5 L1 L2 L3 L4 L5 K1 K2 K3 K4 K5 X1 X2 X3 X4 X5 a2p hpm hpy aM aA aB aR aZ aT aK aH aX aQ aG hS hK hz1 hz2 hser hB hTd hSd hG hMi hR hZ hQ hvx mb1 mb2 rx1 rx2 rk1 rk2 hx hl hm hv lm he hL hj1 hj hp32 hp hT
 have HOK:=Hd9 (And.intro hok aS)
 clear hok aS
 generalize spK m e = kk at *
 generalize spE m = xx at *
 obtain ⟨MS, hMS⟩:=nm9 (mkM S (-(p : Int)))
 rw [hMS] at g14
 obtain ⟨ES, hES⟩:=nm9 (mkE S (-(p : Int)))
 rw [hES] at g14
 have HSS:=Hd9 (And.intro hMS hES)
 clear hMS hES
 generalize mkM (2 * G) (-(p : Int)) = MH at *
 generalize mkE (2 * G) (-(p : Int)) = EH at *
 generalize mkM (L * kk) (-(p : Int)) = MX at *
 generalize mkE (L * kk) (-(p : Int)) = EX at *
 generalize mkM (Mi + 2 ^ p) (-(p : Int)) = MA at *
 generalize mkE (Mi + 2 ^ p) (-(p : Int)) = EA at *
 generalize mkM (Mi - 2 ^ p) (-(p : Int)) = MB at *
 generalize mkE (Mi - 2 ^ p) (-(p : Int)) = EB at *
 generalize mkM (2 ^ p) (-(p : Int)) = M1 at *
 generalize mkE (2 ^ p) (-(p : Int)) = E1 at *
 generalize mkM G (-(p : Int)) = MG at *
 generalize mkE G (-(p : Int)) = EG at *
 generalize mkM T (-(p : Int)) = MT at *
 generalize mkE T (-(p : Int)) = ET at *
 generalize mkM Q (-(p : Int)) = MQ at *
 generalize mkE Q (-(p : Int)) = EQ at *
 generalize mkM Z (-(p : Int)) = MZ at *
 generalize mkE Z (-(p : Int)) = EZ at *
 generalize mkM R (-(p : Int)) = MR at *
 generalize mkE R (-(p : Int)) = ER at *
 generalize mkM Mi (-(p : Int)) = M2 at *
 generalize mkE Mi (-(p : Int)) = E2 at *
 generalize mkM L (-(p : Int)) = ML at *
 generalize mkE L (-(p : Int)) = EL at *
 generalize mkM kk 0 = MK at *
 generalize mkE kk 0 = EK at *
 have G1:=Hd9 g1
 have G2:=Hd9 g2
 have G3:=Hd9 g3
 have G4:=Hd9 g4
 have G5:=Hd9 g5
 have G6:=Hd9 g6
 have G7:=Hd9 g7
 have G8:=Hd9 g8
 have G9:=Hd9 g9
 have G10:=Hd9 g10
 have G11:=Hd9 g11
 have G12:=Hd9 g12
 have G13:=Hd9 g13
 have G14:=Hd9 g14
 clear g1 g2 g3 g4 g5 g6 g7 g8 g9 g10 g11 g12 g13 g14
 go_enter Tryz.func53, Tryz.ntmps53
 have L:=(((L0.varD (w.heap.size) (by simp) (ng m) A (zl m) c e).varD (w.heap.size + 1) (by simp) (ng ML) B (zl ML) d EL).varD (w.heap.size + 2) (by simp) false none 0 0 0)
 obtain ⟨c20,c21,c22⟩:=L.tl.tl.b0.a3
 (try go_wp2_with fail)
 refine (G1.out _ _ (isD_n (m:=m) (e:=e) (s:=.slice A (zl m) c) (L.getN (by simp))) L.below).mono ?_
 rintro e w1 ⟨v9, rfl, iz, be⟩
 clear c20 c21 c22
 obtain ⟨A1, c1, rfl, _, in9⟩:=iz.form
 replace L:=(L.step be).n in9
 clear be iz in9
 have hl9:=L.b0.lt
 replace L:=L.varD w1.heap.size rfl (ng m) A1 (zl m) c1 xx
 obtain ⟨c00,c01,c02⟩:=L.b0.a3
 go_wp2_with fail
 clear c00 c01 c02
 obtain ⟨g1, hg1⟩:=nm9 (w1.heap.size)
 rw [hg1] at L hl9 ⊢
 clear hg1
 have hl_g1:=hl9
 clear hl9
 refine (G2.out _ _ (isD_n (m:=m) (e:=xx) (s:=.slice A1 (zl m) c1) (L.getN (by simp))) L.below).mono ?_
 rintro e w2 ⟨v9, rfl, iz, be⟩
 obtain ⟨A2, c2, rfl, _, in9⟩:=iz.form
 replace L:=(L.step be).n in9
 clear be iz in9
 obtain ⟨c00,c01,c02⟩:=L.b0.a3
 obtain ⟨f00,f01,f02⟩:=L.b0.f3
 have P:=L.putD (by omega) (by simp; omega) (ng M2) A2 (zl M2) c2 E2
 unfold put3 at P
 go_wp2_with fail
 replace L:=P
 clear P
 clear c00 f00 c01 f01 c02 f02
 (try go_wp2_with fail)
 obtain ⟨V, hV, L9⟩:=L.name
 rw [hV]
 clear hV L
 have L:=L9
 clear L9
 have Q0:=Hd9 (fun Z (hZ : Below V.heap.size V Z) => (L.b0.mono hZ).c30)
 have Q1:=Hd9 (fun Z (hZ : Below V.heap.size V Z) => (L.b0.mono hZ).c31)
 have Q2:=Hd9 (fun Z (hZ : Below V.heap.size V Z) => (L.b0.mono hZ).c32)
 have hb0:=L.b0.lt
 have D0 : Dq V V [(.slice A2 (zl M2) c2, (M2 : Int).natAbs)] [] [] []:=⟨((Lq.mk0 V).n (L.getN (v:=.slice A2 (zl M2) c2) (x:=(M2 : Int).natAbs) (by simp))), List.nodup_nil, fun p hp => by cases hp⟩
 have D:=D0.drew
 have hVw:=L.below.size
 have HVW:=Hd9 (fun Z (hZ : Below V.heap.size V Z) => L.below.trans (hZ.mono hVw))
 have LL:=Hd9 L
 clear L
 obtain ⟨K, hK⟩:=nm9 (V.heap.size)
 have hz0 : K ≤ V.heap.size:=by omega
 have hmd : V.drew.heap.size = K:=hK
 have hc0 : g1 < K:=by omega
 go_cut [10, 11] from 34 to 40 (fun s0 s1 wx => s1 = .int .i64 0 ∧ Made1D V MB EB s0 wx)
 case first =>
  go_region_held3 (fun w' => w'.cell? ⟨g1, 0, none⟩ = some (.bool (ng M2)) ∧ w'.cell? ⟨g1, 1, none⟩ = some (.slice A2 (zl M2) c2) ∧ w'.cell? ⟨g1, 2, none⟩ = some (.int .i64 E2)) (((try dsimp only); refine ⟨?_, ?_, ?_⟩ <;> (repeat (first | (with_reducible exact Q0.out _ D.lq.below) | (with_reducible exact Q0.out _ D0.lq.below) | (with_reducible exact Q1.out _ D.lq.below) | (with_reducible exact Q1.out _ D0.lq.below) | (with_reducible exact Q2.out _ D.lq.below) | (with_reducible exact Q2.out _ D0.lq.below) | (with_reducible refine c_alloc _ ?_) | (with_reducible refine c_drew ?_) | (with_reducible refine c_set ?_ (by assumption) ?_) | omega)))) (first | (go_at_call 92; (with_reducible refine (G3.out _ ?_).mono ?_); (· (first | (with_reducible exact HVW.out _ D.lq.below) | (with_reducible exact HVW.out _ (D.boxD false none 0 0 0).lq.below) | (with_reducible exact HVW.out _ (D0.boxD false none 0 0 0).drew.lq.below))); rintro e9 wh ⟨vh, rfl, id, be⟩; obtain ⟨A3, c3, rfl, _, in9⟩:=id.form; (first | (replace D:=D.step be) | (replace D:=(D.boxMD hmd false none 0 0 0).step be) | (replace D:=(D.boxD false none 0 0 0).step be)); have hz:=be.size; (try simp at hz); replace D:=D.n in9; (try (obtain ⟨x00,x01,x02⟩:=D.lq.b0.a3; obtain ⟨y00,y01,y02⟩:=D.lq.b0.f3)); (try obtain ⟨na, nb, nc, nd, nl⟩:=D.n0)) | (go_at_call 56; (with_reducible refine (G4.out _ _ _ ?_ ?_ ?_).mono ?_); (· (first | (with_reducible refine isD_n (D.getN ?_); (repeat (first | (with_reducible exact mS) | apply mT))) | (with_reducible refine isD_n ((D.boxD false none 0 0 0).getN ?_); (repeat (first | (with_reducible exact mS) | apply mT))) | (with_reducible refine isD_n ((D0.boxD false none 0 0 0).drew.getN ?_); (repeat (first | (with_reducible exact mS) | apply mT))))); (· (first | (with_reducible refine isD_n (D.getN ?_); (repeat (first | (with_reducible exact mS) | apply mT))) | (with_reducible refine isD_n ((D.boxD false none 0 0 0).getN ?_); (repeat (first | (with_reducible exact mS) | apply mT))) | (with_reducible refine isD_n ((D0.boxD false none 0 0 0).drew.getN ?_); (repeat (first | (with_reducible exact mS) | apply mT))))); (· (first | (with_reducible exact HVW.out _ D.lq.below) | (with_reducible exact HVW.out _ (D.boxD false none 0 0 0).lq.below) | (with_reducible exact HVW.out _ (D0.boxD false none 0 0 0).drew.lq.below))); rintro e9 wh ⟨vh, rfl, id, be⟩; obtain ⟨A4, c4, rfl, _, in9⟩:=id.form; (first | (replace D:=D.step be) | (replace D:=(D.boxMD hmd false none 0 0 0).step be) | (replace D:=(D.boxD false none 0 0 0).step be)); have hz:=be.size; (try simp at hz); replace D:=D.n in9; (try (obtain ⟨x00,x01,x02⟩:=D.lq.b0.a3; obtain ⟨y00,y01,y02⟩:=D.lq.b0.f3)); (try obtain ⟨na, nb, nc, nd, nl⟩:=D.n0)))
  all_goals
   go_wp2_with fail
   go_meet
   refine ⟨rfl, ?_⟩
   first
   | ((with_reducible refine made1d_a D ?_) <;> (repeat (first | (with_reducible exact mS) | apply mT)))
   | ((with_reducible refine made1d_b D ?_) <;> (repeat (first | (with_reducible exact mS) | apply mT)))
 case rest =>
  obtain ⟨rfl, g2, A5, c5, rfl, hg9, bw, hb9, q1⟩:=hcut
  have L:=((LL.out.step bw).n q1).b hb9
  have hl_g2:=hg9
  clear D D0 hmd LL hb9 q1 bw hg9 HVW Q0 Q1 Q2 hc0
  generalize wc = wd2 at *
  (try go_wp2_with fail)
  obtain ⟨V, hV, L9⟩:=L.name
  rw [hV]
  clear hV L
  have L:=L9
  clear L9
  have Q0:=Hd9 (fun Z (hZ : Below V.heap.size V Z) => (L.tl.b0.mono hZ).c30)
  have Q1:=Hd9 (fun Z (hZ : Below V.heap.size V Z) => (L.tl.b0.mono hZ).c31)
  have Q2:=Hd9 (fun Z (hZ : Below V.heap.size V Z) => (L.tl.b0.mono hZ).c32)
  have hb0:=L.tl.b0.lt
  have D0 : Dq V V [(.slice A2 (zl M2) c2, (M2 : Int).natAbs)] [] [] []:=⟨((Lq.mk0 V).n (L.getN (v:=.slice A2 (zl M2) c2) (x:=(M2 : Int).natAbs) (by simp))), List.nodup_nil, fun p hp => by cases hp⟩
  have D:=D0.drew
  have hVw:=L.below.size
  have HVW:=Hd9 (fun Z (hZ : Below V.heap.size V Z) => L.below.trans (hZ.mono hVw))
  have LL:=Hd9 L
  clear L
  obtain ⟨K, hK⟩:=nm9 (V.heap.size)
  have hz0 : K ≤ V.heap.size:=by omega
  have hmd : V.drew.heap.size = K:=hK
  have hc0 : g1 < K:=by omega
  go_cut [12, 13] from 40 to 46 (fun s0 s1 wx => s1 = .int .i64 0 ∧ Made1D V MA EA s0 wx)
  case first =>
   go_region_held3 (fun w' => w'.cell? ⟨g1, 0, none⟩ = some (.bool (ng M2)) ∧ w'.cell? ⟨g1, 1, none⟩ = some (.slice A2 (zl M2) c2) ∧ w'.cell? ⟨g1, 2, none⟩ = some (.int .i64 E2)) (((try dsimp only); refine ⟨?_, ?_, ?_⟩ <;> (repeat (first | (with_reducible exact Q0.out _ D.lq.below) | (with_reducible exact Q0.out _ D0.lq.below) | (with_reducible exact Q1.out _ D.lq.below) | (with_reducible exact Q1.out _ D0.lq.below) | (with_reducible exact Q2.out _ D.lq.below) | (with_reducible exact Q2.out _ D0.lq.below) | (with_reducible refine c_alloc _ ?_) | (with_reducible refine c_drew ?_) | (with_reducible refine c_set ?_ (by assumption) ?_) | omega)))) (first | (go_at_call 92; (with_reducible refine (G3.out _ ?_).mono ?_); (· (first | (with_reducible exact HVW.out _ D.lq.below) | (with_reducible exact HVW.out _ (D.boxD false none 0 0 0).lq.below) | (with_reducible exact HVW.out _ (D0.boxD false none 0 0 0).drew.lq.below))); rintro e9 wh ⟨vh, rfl, id, be⟩; obtain ⟨A3, c3, rfl, _, in9⟩:=id.form; (first | (replace D:=D.step be) | (replace D:=(D.boxMD hmd false none 0 0 0).step be) | (replace D:=(D.boxD false none 0 0 0).step be)); have hz:=be.size; (try simp at hz); replace D:=D.n in9; (try (obtain ⟨x00,x01,x02⟩:=D.lq.b0.a3; obtain ⟨y00,y01,y02⟩:=D.lq.b0.f3)); (try obtain ⟨na, nb, nc, nd, nl⟩:=D.n0)) | (go_at_call 57; (with_reducible refine (G5.out _ _ _ ?_ ?_ ?_).mono ?_); (· (first | (with_reducible refine isD_n (D.getN ?_); (repeat (first | (with_reducible exact mS) | apply mT))) | (with_reducible refine isD_n ((D.boxD false none 0 0 0).getN ?_); (repeat (first | (with_reducible exact mS) | apply mT))) | (with_reducible refine isD_n ((D0.boxD false none 0 0 0).drew.getN ?_); (repeat (first | (with_reducible exact mS) | apply mT))))); (· (first | (with_reducible refine isD_n (D.getN ?_); (repeat (first | (with_reducible exact mS) | apply mT))) | (with_reducible refine isD_n ((D.boxD false none 0 0 0).getN ?_); (repeat (first | (with_reducible exact mS) | apply mT))) | (with_reducible refine isD_n ((D0.boxD false none 0 0 0).drew.getN ?_); (repeat (first | (with_reducible exact mS) | apply mT))))); (· (first | (with_reducible exact HVW.out _ D.lq.below) | (with_reducible exact HVW.out _ (D.boxD false none 0 0 0).lq.below) | (with_reducible exact HVW.out _ (D0.boxD false none 0 0 0).drew.lq.below))); rintro e9 wh ⟨vh, rfl, id, be⟩; obtain ⟨A4, c4, rfl, _, in9⟩:=id.form; (first | (replace D:=D.step be) | (replace D:=(D.boxMD hmd false none 0 0 0).step be) | (replace D:=(D.boxD false none 0 0 0).step be)); have hz:=be.size; (try simp at hz); replace D:=D.n in9; (try (obtain ⟨x00,x01,x02⟩:=D.lq.b0.a3; obtain ⟨y00,y01,y02⟩:=D.lq.b0.f3)); (try obtain ⟨na, nb, nc, nd, nl⟩:=D.n0)))
   all_goals
    go_wp2_with fail
    go_meet
    refine ⟨rfl, ?_⟩
    first
    | ((with_reducible refine made1d_a D ?_) <;> (repeat (first | (with_reducible exact mS) | apply mT)))
    | ((with_reducible refine made1d_b D ?_) <;> (repeat (first | (with_reducible exact mS) | apply mT)))
  case rest =>
   obtain ⟨rfl, g3, A6, c6, rfl, hg9, bw, hb9, q1⟩:=hcut
   have L:=((LL.out.step bw).n q1).b hb9
   have hl_g3:=hg9
   clear D D0 hmd LL hb9 q1 bw hg9 HVW Q0 Q1 Q2 hc0
   generalize wc = wd3 at *
   (try go_wp2_with fail)
   obtain ⟨V, hV, L9⟩:=L.name
   rw [hV]
   clear hV L
   have L:=L9
   clear L9
   have Q0:=Hd9 (fun Z (hZ : Below V.heap.size V Z) => (L.b0.mono hZ).c30)
   have Q1:=Hd9 (fun Z (hZ : Below V.heap.size V Z) => (L.b0.mono hZ).c31)
   have Q2:=Hd9 (fun Z (hZ : Below V.heap.size V Z) => (L.b0.mono hZ).c32)
   have Q3:=Hd9 (fun Z (hZ : Below V.heap.size V Z) => (L.tl.b0.mono hZ).c30)
   have Q4:=Hd9 (fun Z (hZ : Below V.heap.size V Z) => (L.tl.b0.mono hZ).c31)
   have Q5:=Hd9 (fun Z (hZ : Below V.heap.size V Z) => (L.tl.b0.mono hZ).c32)
   have hb0:=L.b0.lt
   have hb1:=L.tl.b0.lt
   have D0 : Dq V V [(.slice A6 (zl MA) c6, (MA : Int).natAbs), (.slice A5 (zl MB) c5, (MB : Int).natAbs)] [] [] []:=⟨(((Lq.mk0 V).n (L.getN (v:=.slice A5 (zl MB) c5) (x:=(MB : Int).natAbs) (by simp))).n (L.getN (v:=.slice A6 (zl MA) c6) (x:=(MA : Int).natAbs) (by simp))), List.nodup_nil, fun p hp => by cases hp⟩
   have D:=D0.drew
   have hVw:=L.below.size
   have HVW:=Hd9 (fun Z (hZ : Below V.heap.size V Z) => L.below.trans (hZ.mono hVw))
   have LL:=Hd9 L
   clear L
   obtain ⟨K, hK⟩:=nm9 (V.heap.size)
   have hz0 : K ≤ V.heap.size:=by omega
   have hmd : V.drew.heap.size = K:=hK
   have hc0 : g3 < K:=by omega
   have hc1 : g2 < K:=by omega
   go_cut [14] from 46 to 52 (fun s0 wx => Made1D V MZ EZ s0 wx)
   case first =>
    go_region_held3 (fun w' => w'.cell? ⟨g3, 0, none⟩ = some (.bool (ng MA)) ∧ w'.cell? ⟨g3, 1, none⟩ = some (.slice A6 (zl MA) c6) ∧ w'.cell? ⟨g3, 2, none⟩ = some (.int .i64 EA) ∧ w'.cell? ⟨g2, 0, none⟩ = some (.bool (ng MB)) ∧ w'.cell? ⟨g2, 1, none⟩ = some (.slice A5 (zl MB) c5) ∧ w'.cell? ⟨g2, 2, none⟩ = some (.int .i64 EB)) (((try dsimp only); refine ⟨?_, ?_, ?_, ?_, ?_, ?_⟩ <;> (repeat (first | (with_reducible exact Q0.out _ D.lq.below) | (with_reducible exact Q0.out _ D0.lq.below) | (with_reducible exact Q1.out _ D.lq.below) | (with_reducible exact Q1.out _ D0.lq.below) | (with_reducible exact Q2.out _ D.lq.below) | (with_reducible exact Q2.out _ D0.lq.below) | (with_reducible exact Q3.out _ D.lq.below) | (with_reducible exact Q3.out _ D0.lq.below) | (with_reducible exact Q4.out _ D.lq.below) | (with_reducible exact Q4.out _ D0.lq.below) | (with_reducible exact Q5.out _ D.lq.below) | (with_reducible exact Q5.out _ D0.lq.below) | (with_reducible refine c_alloc _ ?_) | (with_reducible refine c_drew ?_) | (with_reducible refine c_set ?_ (by assumption) ?_) | omega)))) (first | (go_at_call 125; (with_reducible refine (G6.out _ _ ?_ ?_).mono ?_); (· (first | (with_reducible refine isD_n (D.getN ?_); (repeat (first | (with_reducible exact mS) | apply mT))) | (with_reducible refine isD_n ((D.boxD false none 0 0 0).getN ?_); (repeat (first | (with_reducible exact mS) | apply mT))) | (with_reducible refine isD_n ((D0.boxD false none 0 0 0).drew.getN ?_); (repeat (first | (with_reducible exact mS) | apply mT))))); (· (first | (with_reducible exact HVW.out _ D.lq.below) | (with_reducible exact HVW.out _ (D.boxD false none 0 0 0).lq.below) | (with_reducible exact HVW.out _ (D0.boxD false none 0 0 0).drew.lq.below))); rintro e9 wh ⟨vh, rfl, id, be⟩; obtain ⟨A3, c3, rfl, _, in9⟩:=id.form; (first | (replace D:=D.step be) | (replace D:=(D.boxMD hmd false none 0 0 0).step be) | (replace D:=(D.boxD false none 0 0 0).step be)); have hz:=be.size; (try simp at hz); replace D:=D.n in9; (try (obtain ⟨x00,x01,x02⟩:=D.lq.b0.a3; obtain ⟨y00,y01,y02⟩:=D.lq.b0.f3)); (try obtain ⟨na, nb, nc, nd, nl⟩:=D.n0)) | (go_at_call 124; (with_reducible refine (G7.out _ _ _ ?_ ?_ ?_).mono ?_); (· (first | (with_reducible refine isD_n (D.getN ?_); (repeat (first | (with_reducible exact mS) | apply mT))) | (with_reducible refine isD_n ((D.boxD false none 0 0 0).getN ?_); (repeat (first | (with_reducible exact mS) | apply mT))) | (with_reducible refine isD_n ((D0.boxD false none 0 0 0).drew.getN ?_); (repeat (first | (with_reducible exact mS) | apply mT))))); (· (first | (with_reducible refine isD_n (D.getN ?_); (repeat (first | (with_reducible exact mS) | apply mT))) | (with_reducible refine isD_n ((D.boxD false none 0 0 0).getN ?_); (repeat (first | (with_reducible exact mS) | apply mT))) | (with_reducible refine isD_n ((D0.boxD false none 0 0 0).drew.getN ?_); (repeat (first | (with_reducible exact mS) | apply mT))))); (· (first | (with_reducible exact HVW.out _ D.lq.below) | (with_reducible exact HVW.out _ (D.boxD false none 0 0 0).lq.below) | (with_reducible exact HVW.out _ (D0.boxD false none 0 0 0).drew.lq.below))); rintro e9 wh ⟨vh, rfl, id, be⟩; obtain ⟨A4, c4, rfl, _, in9⟩:=id.form; (first | (replace D:=D.step be) | (replace D:=(D.boxMD hmd false none 0 0 0).step be) | (replace D:=(D.boxD false none 0 0 0).step be)); have hz:=be.size; (try simp at hz); replace D:=D.n in9; (try (obtain ⟨x00,x01,x02⟩:=D.lq.b0.a3; obtain ⟨y00,y01,y02⟩:=D.lq.b0.f3)); (try obtain ⟨na, nb, nc, nd, nl⟩:=D.n0)))
    all_goals
     go_wp2_with fail
     go_meet
     first
     | ((with_reducible refine made1d_a D ?_) <;> (repeat (first | (with_reducible exact mS) | apply mT)))
     | ((with_reducible refine made1d_b D ?_) <;> (repeat (first | (with_reducible exact mS) | apply mT)))
   case rest =>
    obtain ⟨g4, A7, c7, rfl, hg9, bw, hb9, q1⟩:=hcut
    have L:=((LL.out.step bw).n q1).b hb9
    have hl_g4:=hg9
    clear D D0 hmd LL hb9 q1 bw hg9 HVW Q0 Q1 Q2 Q3 Q4 Q5 hc0 hc1
    generalize wc = wd4 at *
    (try go_wp2_with fail)
    obtain ⟨V, hV, L9⟩:=L.name
    rw [hV]
    clear hV L
    have L:=L9
    clear L9
    have Q0:=Hd9 (fun Z (hZ : Below V.heap.size V Z) => (L.b0.mono hZ).c30)
    have Q1:=Hd9 (fun Z (hZ : Below V.heap.size V Z) => (L.b0.mono hZ).c31)
    have Q2:=Hd9 (fun Z (hZ : Below V.heap.size V Z) => (L.b0.mono hZ).c32)
    have hb0:=L.b0.lt
    have D0 : Dq V V [(.slice A7 (zl MZ) c7, (MZ : Int).natAbs)] [] [] []:=⟨((Lq.mk0 V).n (L.getN (v:=.slice A7 (zl MZ) c7) (x:=(MZ : Int).natAbs) (by simp))), List.nodup_nil, fun p hp => by cases hp⟩
    have D:=D0.drew
    have hVw:=L.below.size
    have HVW:=Hd9 (fun Z (hZ : Below V.heap.size V Z) => L.below.trans (hZ.mono hVw))
    have LL:=Hd9 L
    clear L
    obtain ⟨K, hK⟩:=nm9 (V.heap.size)
    have hz0 : K ≤ V.heap.size:=by omega
    have hmd : V.drew.heap.size = K:=hK
    have hc0 : g4 < K:=by omega
    go_cut [15] from 52 to 61 (fun s0 wx => Made1D V MG EG s0 wx)
    case first =>
     go_region_held3 (fun w' => w'.cell? ⟨g4, 0, none⟩ = some (.bool (ng MZ)) ∧ w'.cell? ⟨g4, 1, none⟩ = some (.slice A7 (zl MZ) c7) ∧ w'.cell? ⟨g4, 2, none⟩ = some (.int .i64 EZ)) (((try dsimp only); refine ⟨?_, ?_, ?_⟩ <;> (repeat (first | (with_reducible exact Q0.out _ D.lq.below) | (with_reducible exact Q0.out _ D0.lq.below) | (with_reducible exact Q1.out _ D.lq.below) | (with_reducible exact Q1.out _ D0.lq.below) | (with_reducible exact Q2.out _ D.lq.below) | (with_reducible exact Q2.out _ D0.lq.below) | (with_reducible refine c_alloc _ ?_) | (with_reducible refine c_drew ?_) | (with_reducible refine c_set ?_ (by assumption) ?_) | omega)))) (first | (go_at_call 124; (with_reducible refine (G8.out _ _ _ ?_ ?_ ?_).mono ?_); (· (first | (with_reducible refine isD_n (D.getN ?_); (repeat (first | (with_reducible exact mS) | apply mT))) | (with_reducible refine isD_n ((D.boxD false none 0 0 0).getN ?_); (repeat (first | (with_reducible exact mS) | apply mT))) | (with_reducible refine isD_n ((D0.boxD false none 0 0 0).drew.getN ?_); (repeat (first | (with_reducible exact mS) | apply mT))))); (· (first | (with_reducible refine isD_n (D.getN ?_); (repeat (first | (with_reducible exact mS) | apply mT))) | (with_reducible refine isD_n ((D.boxD false none 0 0 0).getN ?_); (repeat (first | (with_reducible exact mS) | apply mT))) | (with_reducible refine isD_n ((D0.boxD false none 0 0 0).drew.getN ?_); (repeat (first | (with_reducible exact mS) | apply mT))))); (· (first | (with_reducible exact HVW.out _ D.lq.below) | (with_reducible exact HVW.out _ (D.boxD false none 0 0 0).lq.below) | (with_reducible exact HVW.out _ (D0.boxD false none 0 0 0).drew.lq.below))); rintro e9 wh ⟨vh, rfl, id, be⟩; obtain ⟨A3, c3, rfl, _, in9⟩:=id.form; (first | (replace D:=D.step be) | (replace D:=(D.boxMD hmd false none 0 0 0).step be) | (replace D:=(D.boxD false none 0 0 0).step be)); have hz:=be.size; (try simp at hz); replace D:=D.n in9; (try (obtain ⟨x00,x01,x02⟩:=D.lq.b0.a3; obtain ⟨y00,y01,y02⟩:=D.lq.b0.f3)); (try obtain ⟨na, nb, nc, nd, nl⟩:=D.n0)) | (go_at_call 126; (with_reducible refine (G9.out _ _ ?_ ?_).mono ?_); (· (first | (with_reducible refine isD_n (D.getN ?_); (repeat (first | (with_reducible exact mS) | apply mT))) | (with_reducible refine isD_n ((D.boxD false none 0 0 0).getN ?_); (repeat (first | (with_reducible exact mS) | apply mT))) | (with_reducible refine isD_n ((D0.boxD false none 0 0 0).drew.getN ?_); (repeat (first | (with_reducible exact mS) | apply mT))))); (· (first | (with_reducible exact HVW.out _ D.lq.below) | (with_reducible exact HVW.out _ (D.boxD false none 0 0 0).lq.below) | (with_reducible exact HVW.out _ (D0.boxD false none 0 0 0).drew.lq.below))); rintro e9 wh ⟨vh, rfl, id, be⟩; obtain ⟨A4, c4, rfl, _, in9⟩:=id.form; (first | (replace D:=D.step be) | (replace D:=(D.boxMD hmd false none 0 0 0).step be) | (replace D:=(D.boxD false none 0 0 0).step be)); have hz:=be.size; (try simp at hz); replace D:=D.n in9; (try (obtain ⟨x00,x01,x02⟩:=D.lq.b0.a3; obtain ⟨y00,y01,y02⟩:=D.lq.b0.f3)); (try obtain ⟨na, nb, nc, nd, nl⟩:=D.n0)) | (go_at_call 124; (with_reducible refine (G10.out _ _ _ ?_ ?_ ?_).mono ?_); (· (first | (with_reducible refine isD_n (D.getN ?_); (repeat (first | (with_reducible exact mS) | apply mT))) | (with_reducible refine isD_n ((D.boxD false none 0 0 0).getN ?_); (repeat (first | (with_reducible exact mS) | apply mT))) | (with_reducible refine isD_n ((D0.boxD false none 0 0 0).drew.getN ?_); (repeat (first | (with_reducible exact mS) | apply mT))))); (· (first | (with_reducible refine isD_n (D.getN ?_); (repeat (first | (with_reducible exact mS) | apply mT))) | (with_reducible refine isD_n ((D.boxD false none 0 0 0).getN ?_); (repeat (first | (with_reducible exact mS) | apply mT))) | (with_reducible refine isD_n ((D0.boxD false none 0 0 0).drew.getN ?_); (repeat (first | (with_reducible exact mS) | apply mT))))); (· (first | (with_reducible exact HVW.out _ D.lq.below) | (with_reducible exact HVW.out _ (D.boxD false none 0 0 0).lq.below) | (with_reducible exact HVW.out _ (D0.boxD false none 0 0 0).drew.lq.below))); rintro e9 wh ⟨vh, rfl, id, be⟩; obtain ⟨A8, c8, rfl, _, in9⟩:=id.form; (first | (replace D:=D.step be) | (replace D:=(D.boxMD hmd false none 0 0 0).step be) | (replace D:=(D.boxD false none 0 0 0).step be)); have hz:=be.size; (try simp at hz); replace D:=D.n in9; (try (obtain ⟨x00,x01,x02⟩:=D.lq.b0.a3; obtain ⟨y00,y01,y02⟩:=D.lq.b0.f3)); (try obtain ⟨na, nb, nc, nd, nl⟩:=D.n0)))
     all_goals
      go_wp2_with fail
      go_meet
      first
      | ((with_reducible refine made1d_a D ?_) <;> (repeat (first | (with_reducible exact mS) | apply mT)))
      | ((with_reducible refine made1d_b D ?_) <;> (repeat (first | (with_reducible exact mS) | apply mT)))
    case rest =>
     obtain ⟨g5, A9, c9, rfl, hg9, bw, hb9, q1⟩:=hcut
     have L:=((LL.out.step bw).n q1).b hb9
     have hl_g5:=hg9
     clear D D0 hmd LL hb9 q1 bw hg9 HVW Q0 Q1 Q2 hc0
     generalize wc = wd5 at *
     obtain ⟨c00,c01,c02⟩:=L.b0.a3
     (try go_wp2_with fail)
     refine (G11.out _ _ (isD_n (m:=MG) (e:=EG) (s:=.slice A9 (zl MG) c9) (L.getN (by simp))) L.below).mono ?_
     rintro e w7 ⟨v9, rfl, iz, be⟩
     clear c00 c01 c02
     obtain ⟨AH, cH, rfl, _, in9⟩:=iz.form
     replace L:=(L.step be).n in9
     clear be iz in9
     have hl9:=L.b0.lt
     replace L:=L.varD w7.heap.size rfl (ng MH) AH (zl MH) cH EH
     obtain ⟨c00,c01,c02⟩:=L.b0.a3
     go_wp2_with fail
     clear c00 c01 c02
     obtain ⟨g6, hg6⟩:=nm9 (w7.heap.size)
     rw [hg6] at L hl9 ⊢
     clear hg6
     have hl_g6:=hl9
     clear hl9
     (try go_wp2_with fail)
     obtain ⟨V, hV, L9⟩:=L.name
     rw [hV]
     clear hV L
     have L:=L9
     clear L9
     have Q0:=Hd9 (fun Z (hZ : Below V.heap.size V Z) => (L.tl.tl.tl.tl.tl.tl.tl.b0.mono hZ).c30)
     have Q1:=Hd9 (fun Z (hZ : Below V.heap.size V Z) => (L.tl.tl.tl.tl.tl.tl.tl.b0.mono hZ).c31)
     have Q2:=Hd9 (fun Z (hZ : Below V.heap.size V Z) => (L.tl.tl.tl.tl.tl.tl.tl.b0.mono hZ).c32)
     have hb0:=L.tl.tl.tl.tl.tl.tl.tl.b0.lt
     have D0 : Dq V V [(.slice B (zl ML) d, (ML : Int).natAbs)] [] [] []:=⟨((Lq.mk0 V).n (L.getN (v:=.slice B (zl ML) d) (x:=(ML : Int).natAbs) (by simp))), List.nodup_nil, fun p hp => by cases hp⟩
     have D:=D0.drew
     have hVw:=L.below.size
     have HVW:=Hd9 (fun Z (hZ : Below V.heap.size V Z) => L.below.trans (hZ.mono hVw))
     have LL:=Hd9 L
     clear L
     obtain ⟨K, hK⟩:=nm9 (V.heap.size)
     have hz0 : K ≤ V.heap.size:=by omega
     have hmd : V.drew.heap.size = K:=hK
     have hc0 : w.heap.size + 1 < K:=by omega
     go_cut [18, 19] from 66 to 73 (fun s0 s1 wx => s1 = .int .i64 0 ∧ Made1D V MX EX s0 wx)
     case first =>
      go_region_held3 (fun w' => w'.cell? ⟨w.heap.size + 1, 0, none⟩ = some (.bool (ng ML)) ∧ w'.cell? ⟨w.heap.size + 1, 1, none⟩ = some (.slice B (zl ML) d) ∧ w'.cell? ⟨w.heap.size + 1, 2, none⟩ = some (.int .i64 EL)) (((try dsimp only); refine ⟨?_, ?_, ?_⟩ <;> (repeat (first | (with_reducible exact Q0.out _ D.lq.below) | (with_reducible exact Q0.out _ D0.lq.below) | (with_reducible exact Q1.out _ D.lq.below) | (with_reducible exact Q1.out _ D0.lq.below) | (with_reducible exact Q2.out _ D.lq.below) | (with_reducible exact Q2.out _ D0.lq.below) | (with_reducible refine c_alloc _ ?_) | (with_reducible refine c_drew ?_) | (with_reducible refine c_set ?_ (by assumption) ?_) | omega)))) (first | (go_at_call 92; (with_reducible refine (G12.out _ ?_).mono ?_); (· (first | (with_reducible exact HVW.out _ D.lq.below) | (with_reducible exact HVW.out _ (D.boxD false none 0 0 0).lq.below) | (with_reducible exact HVW.out _ (D0.boxD false none 0 0 0).drew.lq.below))); rintro e9 wh ⟨vh, rfl, id, be⟩; obtain ⟨A3, c3, rfl, _, in9⟩:=id.form; (first | (replace D:=D.step be) | (replace D:=(D.boxMD hmd false none 0 0 0).step be) | (replace D:=(D.boxD false none 0 0 0).step be)); have hz:=be.size; (try simp at hz); replace D:=D.n in9; (try (obtain ⟨x00,x01,x02⟩:=D.lq.b0.a3; obtain ⟨y00,y01,y02⟩:=D.lq.b0.f3)); (try obtain ⟨na, nb, nc, nd, nl⟩:=D.n0)) | (go_at_call 90; (with_reducible refine (G13.out _ _ _ ?_ ?_ ?_).mono ?_); (· (first | (with_reducible refine isD_n (D.getN ?_); (repeat (first | (with_reducible exact mS) | apply mT))) | (with_reducible refine isD_n ((D.boxD false none 0 0 0).getN ?_); (repeat (first | (with_reducible exact mS) | apply mT))) | (with_reducible refine isD_n ((D0.boxD false none 0 0 0).drew.getN ?_); (repeat (first | (with_reducible exact mS) | apply mT))))); (· (first | (with_reducible refine isD_n (D.getN ?_); (repeat (first | (with_reducible exact mS) | apply mT))) | (with_reducible refine isD_n ((D.boxD false none 0 0 0).getN ?_); (repeat (first | (with_reducible exact mS) | apply mT))) | (with_reducible refine isD_n ((D0.boxD false none 0 0 0).drew.getN ?_); (repeat (first | (with_reducible exact mS) | apply mT))))); (· (first | (with_reducible exact HVW.out _ D.lq.below) | (with_reducible exact HVW.out _ (D.boxD false none 0 0 0).lq.below) | (with_reducible exact HVW.out _ (D0.boxD false none 0 0 0).drew.lq.below))); rintro e9 wh ⟨vh, rfl, id, be⟩; obtain ⟨A4, c4, rfl, _, in9⟩:=id.form; (first | (replace D:=D.step be) | (replace D:=(D.boxMD hmd false none 0 0 0).step be) | (replace D:=(D.boxD false none 0 0 0).step be)); have hz:=be.size; (try simp at hz); replace D:=D.n in9; (try (obtain ⟨x00,x01,x02⟩:=D.lq.b0.a3; obtain ⟨y00,y01,y02⟩:=D.lq.b0.f3)); (try obtain ⟨na, nb, nc, nd, nl⟩:=D.n0)))
      all_goals
       go_wp2_with fail
       go_meet
       refine ⟨rfl, ?_⟩
       first
       | ((with_reducible refine made1d_a D ?_) <;> (repeat (first | (with_reducible exact mS) | apply mT)))
       | ((with_reducible refine made1d_b D ?_) <;> (repeat (first | (with_reducible exact mS) | apply mT)))
     case rest =>
      obtain ⟨rfl, g7, AX, cX, rfl, hg9, bw, hb9, q1⟩:=hcut
      have L:=((LL.out.step bw).n q1).b hb9
      have hl_g7:=hg9
      clear D D0 hmd LL hb9 q1 bw hg9 HVW Q0 Q1 Q2 hc0
      generalize wc = wd7 at *
      obtain ⟨c00,c01,c02⟩:=L.b0.a3
      obtain ⟨c10,c11,c12⟩:=L.tl.b0.a3
      (try go_wp2_with fail)
      refine (G14.out _ _ _ (isD_n (m:=MH) (e:=EH) (s:=.slice AH (zl MH) cH) (L.getN (by simp))) (isD_n (m:=MX) (e:=EX) (s:=.slice AX (zl MX) cX) (L.getN (by simp))) L.below).mono ?_
      rintro e w9 ⟨v9, rfl, iz, be⟩
      clear c00 c01 c02 c10 c11 c12
      obtain ⟨AS, cS, rfl, _, in9⟩:=iz.form
      replace L:=(L.step be).n in9
      clear be iz in9
      have hl9:=L.b0.lt
      have L9:=L.subx (ns':=[(.slice AS (zl MS) cS, MS.natAbs)]) (bs':=[(w.heap.size + 1 + 1, 26, #[.bool false, .slice none 0 0, .int .i64 0])]) (by simp) (by simp)
      clear L
      have L:=L9
      clear L9
      have n9 : w.heap.size + 1 + 1 ≠ w9.heap.size:=by omega
      obtain ⟨c00,c01,c02⟩:=L.b0.a3
      obtain ⟨f00,f01,f02⟩:=L.b0.f3
      have LN:=L.varD w9.heap.size rfl (ng MS) AS (zl MS) cS ES
      obtain ⟨v0,v1,v2⟩:=LN.b0.a3
      obtain ⟨v3,v4,v5⟩:=LN.tl.b0.a3
      obtain ⟨v6,v7,v8⟩:=LN.tl.b0.f3
      go_wp2_with fail
      clear c00 f00 c01 f01 c02 f02
      clear v0 v1 v2 v3 v4 v5 v6 v7 v8
      clear L
      have L:=LN.swap
      clear LN
      obtain ⟨hok, aS⟩:=HOK.out
      obtain ⟨hMS, hES⟩:=HSS.out
      subst hMS hES
      have LP:=L.putD (by omega) (by first | (simp; done) | (simp; omega)) (ng (mkM S (-(p : Int)))) AS (zl (mkM S (-(p : Int)))) cS (mkE S (-(p : Int)))
      obtain ⟨k0,k1,k2⟩:=LP.b0.a3
      unfold put3 at k0 k1 k2
      exact bodyPost_ret (v:=.agg #[.bool (ng (mkM S (-(p : Int)))), .slice AS (zl (mkM S (-(p : Int)))) cS, .int .i64 (mkE S (-(p : Int)))]) (by simp [results, Tryz.results53, go_sem, k0, k1, k2]) rfl ⟨S, hok, aS, _, rfl, isD_n (LP.getN (by simp)), LP.below⟩

theorem plainP3 (a0 : Int) (F0 : Nat) (n0 : Int) (a1 : Int) (F1 : Nat) (n1 : Int) (a2 : Int) (F2 : Nat) (n2 : Int) : Plain #[.int .i64 a0, .func (.func F0) #[] #[], .int .i64 n0, .int .i64 a1, .func (.func F1) #[] #[], .int .i64 n1, .int .i64 a2, .func (.func F2) #[] #[], .int .i64 n2]:=fun j x => by
 match j with
 | 0 => simp
 | 1 => simp
 | 2 => simp
 | 3 => simp
 | 4 => simp
 | 5 => simp
 | 6 => simp
 | 7 => simp
 | 8 => simp
 | j + 9 => simp
theorem rowP_3 {w : World} {g : Nat} {a0 : Int} {F0 : Nat} {n0 : Int} {a1 : Int} {F1 : Nat} {n1 : Int} {a2 : Int} {F2 : Nat} {n2 : Int} (hv : Var w g 100 #[.int .i64 a0, .func (.func F0) #[] #[], .int .i64 n0, .int .i64 a1, .func (.func F1) #[] #[], .int .i64 n1, .int .i64 a2, .func (.func F2) #[] #[], .int .i64 n2]) : RowP w (.slice (some ⟨g, 0, none⟩) 3 3) [(a0, F0, n0), (a1, F1, n1), (a2, F2, n2)]:=by
  refine ⟨g, 3, rfl, hv.lt, fun j x hx => ?_⟩
  match j with
  | 0 =>
    obtain rfl : (a0, F0, n0) = x:=by simpa using hx
    exact ⟨hv.cell 0, hv.cell 1, hv.cell 2⟩
  | 1 =>
    obtain rfl : (a1, F1, n1) = x:=by simpa using hx
    exact ⟨hv.cell 3, hv.cell 4, hv.cell 5⟩
  | 2 =>
    obtain rfl : (a2, F2, n2) = x:=by simpa using hx
    exact ⟨hv.cell 6, hv.cell 7, hv.cell 8⟩
  | j + 3 => simp at hx
theorem pt1_some {c : Int} {p : Nat → Int × Int} {v : Nat} {T : Int} (h : pt1 c p v = some T) : ∃ S, smP p 600 0 (2 ^ v) 0 = some S ∧ T = S * c:=by
 unfold pt1 at h
 split at h
 ·cases h
 ·next a ha => exact ⟨a, ha, (Option.some.inj h).symm⟩
theorem add2_some {x y : Option Int} {T : Int} (h : add2 x y = some T) : ∃ a b, x = some a ∧ y = some b ∧ T = a + b:=by
 match x, y with
 | some a, some b => exact ⟨a, b, rfl, rfl, (Option.some.inj h).symm⟩
 | none, _ => cases h
 | some _, none => cases h
theorem pt_abs {c S : Int} {p : Nat → Int × Int} {v : Nat} (hg : GdP p) (hS : smP p 600 0 (2 ^ v) 0 = some S) (hc : AbP c 10) (hv : v ≤ 4200) : AbP (S * c) 4850:=((smP_abs hg 600 0 _ _ _ (sp_first hS)).mul hc).up (by omega)

theorem cln_yes (k : Nat) (T : Int) (w : World) (hk : k ≤ 4150) (hT : Tab w) (hS : lnT (k + 32) = some T) :
    Calls Tryz.prog 52 #[.int .i64 (k : Int)] w (RetIE w (mkM (loC T) (-(k : Int))) (mkE (loC T) (-(k : Int))) (mkM (hiC T) (-(k : Int))) (mkE (hiC T) (-(k : Int))) 0):=by
  unfold lnT at hS
  obtain ⟨T9, T2, h9, h2, rfl⟩:=add2_some hS
  obtain ⟨T0, T1, h0, h1, rfl⟩:=add2_some h9
  obtain ⟨S0, hS0, r0⟩:=pt1_some h0
  obtain ⟨S1, hS1, r1⟩:=pt1_some h1
  obtain ⟨S2, hS2, r2⟩:=pt1_some h2
  subst r0 r1 r2
  have hen0 : ∀ args w, (callFunc 122 args).run Tryz.prog w = .ok (.enter 122 args) w:=enters_of Tryz.func122 (by kernel_rfl) rfl
  have G0 : GdP (tnP 26 (-1)):=tnP_good (by simp)
  have a0 : AbP (18) 10:=by unfold AbP; decide
  have u0:=fun W (hW : Below w.heap.size w W) => csum_any 122 hen0 (tnP 26 (-1)) 26 (18) S0 (k + 32) W G0 hS0 a0 (by omega) (hT.mono hW) (fun j W hj => carea_any 26 j W (by omega) (by omega) hj)
  have b0:=pt_abs G0 hS0 a0 (by omega)
  have hen1 : ∀ args w, (callFunc 122 args).run Tryz.prog w = .ok (.enter 122 args) w:=enters_of Tryz.func122 (by kernel_rfl) rfl
  have G1 : GdP (tnP 4801 (-1)):=tnP_good (by simp)
  have a1 : AbP (-2) 10:=by unfold AbP; decide
  have u1:=fun W (hW : Below w.heap.size w W) => csum_any 122 hen1 (tnP 4801 (-1)) 4801 (-2) S1 (k + 32) W G1 hS1 a1 (by omega) (hT.mono hW) (fun j W hj => carea_any 4801 j W (by omega) (by omega) hj)
  have b1:=pt_abs G1 hS1 a1 (by omega)
  have hen2 : ∀ args w, (callFunc 122 args).run Tryz.prog w = .ok (.enter 122 args) w:=enters_of Tryz.func122 (by kernel_rfl) rfl
  have G2 : GdP (tnP 8749 (-1)):=tnP_good (by simp)
  have a2 : AbP (8) 10:=by unfold AbP; decide
  have u2:=fun W (hW : Below w.heap.size w W) => csum_any 122 hen2 (tnP 8749 (-1)) 8749 (8) S2 (k + 32) W G2 hS2 a2 (by omega) (hT.mono hW) (fun j W hj => carea_any 8749 j W (by omega) (by omega) hj)
  have b2:=pt_abs G2 hS2 a2 (by omega)
  have g1:=fun v W (hl : RowP W v [((18 : Int), 122, (26 : Int)), ((-2 : Int), 122, (4801 : Int)), ((8 : Int), 122, (8749 : Int))]) (hW : Below w.heap.size w W) => cencl_yes k [((18 : Int), 122, (26 : Int)), ((-2 : Int), 122, (4801 : Int)), ((8 : Int), 122, (8749 : Int))] [S0 * (18), S1 * (-2), S2 * (8)] (S0 * (18) + S1 * (-2) + S2 * (8)) v W hk hl rfl (by simp) (hT.mono hW) (fun c hc => by
    simp only [List.mem_cons, List.not_mem_nil, or_false] at hc
    rcases hc with rfl | rfl | rfl <;> assumption) (by unfold ttl; unfold ttl; unfold ttl; unfold ttl; rw [Int.zero_add]) (fun j x c W2 hx hc hW2 => by
    have hW3:=hW.trans (hW2.mono hW.size)
    match j with
    | 0 =>
      obtain rfl : ((18 : Int), 122, (26 : Int)) = x:=by simpa using hx
      obtain rfl : S0 * (18) = c:=by simpa using hc
      exact u0 W2 hW3
    | 1 =>
      obtain rfl : ((-2 : Int), 122, (4801 : Int)) = x:=by simpa using hx
      obtain rfl : S1 * (-2) = c:=by simpa using hc
      exact u1 W2 hW3
    | 2 =>
      obtain rfl : ((8 : Int), 122, (8749 : Int)) = x:=by simpa using hx
      obtain rfl : S2 * (8) = c:=by simpa using hc
      exact u2 W2 hW3
    | j + 3 => simp at hx)
  generalize S0 * (18) + S1 * (-2) + S2 * (8) = T at *
  clear hen0 G0 a0 u0 b0 hS0 hen1 G1 a1 u1 b1 hS1 hen2 G2 a2 u2 b2 hS2 hS h0 h1 h2 h9
  generalize mkM (loC T) (-(k : Int)) = Ma at *
  generalize mkE (loC T) (-(k : Int)) = Ea at *
  generalize mkM (hiC T) (-(k : Int)) = Na at *
  generalize mkE (hiC T) (-(k : Int)) = Fa at *
  have H1:=Hd9 g1
  clear g1
  go_enter Tryz.func52, Tryz.ntmps52
  have L:=((Lq.mk0 w).varI (w.heap.size) (by simp) false none 0 0 0 false none 0 0 0)
  replace L:=L.var (w.heap.size + 1) (by simp) 100 #[.int .i64 (18), .func (.func 122) #[] #[], .int .i64 26, .int .i64 (-2), .func (.func 122) #[] #[], .int .i64 4801, .int .i64 (8), .func (.func 122) #[] #[], .int .i64 8749] (plainP3 _ _ _ _ _ _ _ _ _ )
  have p0:=L.b0.cell 0
  have p1:=L.b0.cell 1
  have p2:=L.b0.cell 2
  have p3:=L.b0.cell 3
  have p4:=L.b0.cell 4
  have p5:=L.b0.cell 5
  have p6:=L.b0.cell 6
  have p7:=L.b0.cell 7
  have p8:=L.b0.cell 8
  (try go_wp2_with fail)
  clear p0 p1 p2 p3 p4 p5 p6 p7 p8
  refine (H1.out _ _ (rowP_3 L.b0) L.below).mono ?_
  rintro e w1 ⟨v2, rfl, ii, be⟩
  obtain ⟨A8, c8, B8, d8, rfl, ia, ib⟩:=ii.form
  replace L:=(((L.step be).n ib).n ia).swap
  clear be ii ia ib
  obtain ⟨c00,c01,c02,c03,c04,c05⟩:=L.b0.a6
  obtain ⟨f00,f01,f02,f03,f04,f05⟩:=L.b0.f6
  go_wp2_with fail
  have LP:=L.putI (by omega) (by first | (simp; done) | (simp; omega)) (ng Ma) A8 (zl Ma) c8 Ea (ng Na) B8 (zl Na) d8 Fa
  obtain ⟨k0,k1,k2,k3,k4,k5⟩:=LP.b0.a6
  unfold put6 at k0 k1 k2 k3 k4 k5
  exact bodyPost_ret (v:=.tuple #[.agg #[.bool (ng Ma), .slice A8 (zl Ma) c8, .int .i64 Ea, .bool (ng Na), .slice B8 (zl Na) d8, .int .i64 Fa], .int .i64 0]) (by simp [results, Tryz.results52, go_sem, k0, k1, k2, k3, k4, k5]) rfl ⟨_, rfl, isI_n (LP.getN (by simp)) (LP.getN (by simp)), LP.below⟩
theorem st_512 {p : Nat → Int × Int} {k : Nat} {t : Int} (h : (p k).1.natAbs * 512 ≤ (p k).2.natAbs) (h0 : 0 < (p k).2) : (stP p k t).natAbs ≤ t.natAbs / 512 + 1:=by
 unfold stP
 generalize (p k).1 = a at *
 generalize (p k).2 = b at *
 have x1 : (t * a).natAbs * 512 ≤ t.natAbs * b.natAbs:=by
  rw [Int.natAbs_mul, Nat.mul_assoc]
  exact Nat.mul_le_mul_left _ h
 obtain ⟨B, rfl⟩ : ∃ B : Nat, b = (B : Int):=⟨b.toNat, by omega⟩
 rw [Int.natAbs_natCast] at x1
 have hB : 0 < B:=by omega
 generalize t * a = x at *
 generalize t.natAbs = T at *
 have y1:=Int.ediv_mul_le x (show (B : Int) ≠ 0 by omega)
 have y2:=Int.lt_ediv_add_one_mul_self x (show (0 : Int) < (B : Int) by omega)
 generalize x / (B : Int) = q at *
 -- |q| - 1 <= T / 512
 have key : ∀ r : Nat, (r : Int) * B ≤ x.natAbs → r ≤ T / 512:=fun r hr => by
  have h1 : r * B * 512 ≤ T * B:=by
   have : ((r * B : Nat) : Int) ≤ x.natAbs:=by push_cast; exact hr
   omega
  have h2 : r * 512 ≤ T:=by
   rw [Nat.mul_right_comm] at h1
   exact Nat.le_of_mul_le_mul_right h1 hB
  omega
 rcases Int.lt_or_le q 0 with hq | hq
 ·have h1:=key (-(q + 1)).toNat (by
   have e : (((-(q + 1)).toNat : Nat) : Int) = -(q + 1):=by omega
   rw [e, Int.neg_mul]
   omega)
  omega
 ·have h1:=key q.toNat (by
   have e : ((q.toNat : Nat) : Int) = q:=by omega
   rw [e]
   omega)
  omega
theorem sm_small {p : Nat → Int × Int} (hp : ∀ k, 1 ≤ k → (p k).1.natAbs * 512 ≤ (p k).2.natAbs ∧ 0 < (p k).2 ∧ (p k).1 ≤ 0) {f k : Nat} {t s : Int} (hk : 1 ≤ k) (ht : t.natAbs < 512) : ∃ S, smP p (f + 3) k t s = some S:=by
 have z : ∀ (j : Nat) (y : Int), 1 ≤ j → y ≤ 0 → y.natAbs < 512 → stP p j y = 0:=fun j y hj hy hy2 => by
  obtain ⟨a1, a2, a3⟩:=hp j hj
  unfold stP
  have x0 : 0 ≤ y * (p j).1:=Int.mul_nonneg_of_nonpos_of_nonpos hy a3
  have x1 : (y * (p j).1).natAbs * 512 ≤ y.natAbs * (p j).2.natAbs:=by
   rw [Int.natAbs_mul, Nat.mul_assoc]
   exact Nat.mul_le_mul_left _ a1
  have x2 : y.natAbs * (p j).2.natAbs ≤ 511 * (p j).2.natAbs:=Nat.mul_le_mul_right _ (by omega)
  exact Int.ediv_eq_zero_of_lt x0 (by omega)
 rw [smP]
 split
 ·exact ⟨_, rfl⟩
 ·rename_i h1
  have b1:=st_512 (t:=t) (hp k hk).1 (hp k hk).2.1
  have hneg : stP p k t ≤ 0:=by
   rcases Int.le_total t 0 with h | h
   ·have:=z k t hk h ht
    omega
   ·obtain ⟨a1, a2, a3⟩:=hp k hk
    unfold stP
    have x0 : t * (p k).1 ≤ 0:=Int.mul_nonpos_of_nonneg_of_nonpos h a3
    exact Int.ediv_nonpos_of_nonpos_of_neg x0 a2
  rw [smP, if_pos (z (k + 1) _ (by omega) hneg (by omega))]
  exact ⟨_, rfl⟩
theorem sm_some {p : Nat → Int × Int} (hp : ∀ k, 1 ≤ k → (p k).1.natAbs * 512 ≤ (p k).2.natAbs ∧ 0 < (p k).2 ∧ (p k).1 ≤ 0) : ∀ (j f k : Nat) (t s : Int), 1 ≤ k → t.natAbs < 2 ^ (9 + 8 * j) → ∃ S, smP p (f + 3 + j) k t s = some S
  | 0, f, k, t, s, hk, ht => sm_small hp hk (by simpa using ht)
  | j + 1, f, k, t, s, hk, ht => by
    rcases Nat.lt_or_ge t.natAbs 512 with h | h
    · have:=sm_small (f:=f + (j + 1)) (s:=s) hp hk h
      rw [show f + (j + 1) + 3 = f + 3 + (j + 1) by omega] at this
      exact this
    · rw [show f + 3 + (j + 1) = f + 3 + j + 1 by omega, smP]
      split
      · exact ⟨_, rfl⟩
      · have b1:=st_512 (t:=t) (hp k hk).1 (hp k hk).2.1
        refine sm_some hp j f (k + 1) _ _ (by omega) ?_
        have e1 : 2 ^ (9 + 8 * (j + 1)) = 2 ^ (9 + 8 * j) * 256:=by rw [show 9 + 8 * (j + 1) = 9 + 8 * j + 8 by omega, Nat.pow_add]
        have e2 : 2 ^ (9 + 8 * j) = 512 * 2 ^ (8 * j):=by rw [Nat.pow_add]
        have e3 : 0 < 2 ^ (8 * j):=Nat.pow_pos (by omega)
        omega
theorem tn_some {n : Int} (h : n = 26 ∨ n = 4801 ∨ n = 8749) {v : Nat} (hv : v ≤ 4200) : ∃ S, smP (tnP n (-1)) 600 0 (2 ^ v) 0 = some S:=by
 have hg : GdP (tnP n (-1)):=tnP_good (by rcases h with h | h | h <;> subst h <;> simp)
 have hp : ∀ k, 1 ≤ k → (tnP n (-1) k).1.natAbs * 512 ≤ (tnP n (-1) k).2.natAbs ∧ 0 < (tnP n (-1) k).2 ∧ (tnP n (-1) k).1 ≤ 0:=fun k hk => by
  unfold tnP
  rw [if_neg (by omega)]
  rcases h with h | h | h <;> subst h <;> simp only <;> omega
 rw [show 600 = 599 + 1 by rfl, smP]
 split
 ·exact ⟨_, rfl⟩
 ·have hb:=st_abs (k:=0) hg (by omega) ((tm_one v).abs.1)
  obtain ⟨J, hJ⟩ : ∃ J : Nat, J = 525:=⟨_, rfl⟩
  have:=sm_some hp J 71 1 (stP (tnP n (-1)) 0 (2 ^ v)) (0 + stP (tnP n (-1)) 0 (2 ^ v)) (by omega) (by
   refine Nat.lt_of_le_of_lt hb (Nat.pow_lt_pow_right (by omega) (by omega)))
  rw [show 71 + 3 + J = 599 by omega] at this
  exact this
theorem pt_some {n c : Int} (h : n = 26 ∨ n = 4801 ∨ n = 8749) {v : Nat} (hv : v ≤ 4200) (hc : AbP c 10) : ∃ T, pt1 c (tnP n (-1)) v = some T ∧ AbP T 4850:=by
 obtain ⟨S, hS⟩:=tn_some h hv
 have hg : GdP (tnP n (-1)):=tnP_good (by rcases h with h | h | h <;> subst h <;> simp)
 refine ⟨S * c, ?_, pt_abs hg hS hc hv⟩
 unfold pt1
 rw [hS]
theorem lnT_some {v : Nat} (hv : v ≤ 4200) : ∃ T, lnT v = some T ∧ AbP T 4852:=by
 obtain ⟨a, ha, xa⟩:=pt_some (n:=26) (c:=18) (Or.inl rfl) hv (by unfold AbP; decide)
 obtain ⟨b, hb, xb⟩:=pt_some (n:=4801) (c := -2) (Or.inr (Or.inl rfl)) hv (by unfold AbP; decide)
 obtain ⟨d, hd, xd⟩:=pt_some (n:=8749) (c:=8) (Or.inr (Or.inr rfl)) hv (by unfold AbP; decide)
 refine ⟨a + b + d, ?_, (xa.add xb).add (xd.up (by omega))⟩
 unfold lnT
 rw [ha, hb, hd]
 rfl
theorem ln_L {p : Nat} (hp : p ≤ 4130) (hp3 : 18 ≤ p) : ∃ (T : Int) (j : Nat), lnT (p + 32) = some T ∧ AbP (loC T) j ∧ AbP (hiC T) j ∧ p + 3 ≤ j ∧ j ≤ 5000 ∧ (p ≤ 192 → j = p + 3 ∧ UpE (dq (loC T) (-(p : Int))) 2 ∧ LoE 2 (dq (loC T + 2) (-(p : Int)))):=by
 by_cases h : p ≤ 192
 ·obtain ⟨T, hT, hC⟩:=cn_ln (k:=p) (by omega)
  refine ⟨T, p + 3, hT, hC.al, hC.ah, by omega, by omega, fun _ => ⟨rfl, ln_up.mono hC.lo, ln_lo.mono (Rat.le_trans hC.hi ((dq_le_iff _ _ _).2 hC.wd)) (by decide +kernel)⟩⟩
 ·obtain ⟨T, hT, hA⟩:=lnT_some (v:=p + 32) (by omega)
  obtain ⟨l1, l2⟩:=loC_abs hA (by omega)
  exact ⟨T, 4853, hT, l1, l2, by omega, by omega, fun h9 => absurd h9 h⟩
def lnLo (S : Int) : Int:=(S - 32768) / 2 ^ 32
def lnHi (S : Int) : Int:=cdv (S + 32768) (2 ^ 32)
theorem lnLo_cut {S : Int} {k p : Nat} (hp : p = k + 32) : cutQ (dq (S - 32768) (-(p : Int))) (k : Int) = lnLo S:=cutD_down 32 (by omega)
theorem lnHi_cut {S : Int} {k p : Nat} (hp : p = k + 32) : -(cutQ (-(dq (S + 32768) (-(p : Int)))) (k : Int)) = lnHi S:=by
 rw [← dq_neg, cutD_down 32 (by omega)]
 rfl
theorem lnLo_en {S : Int} {k p : Nat} {x : Rat} (hp : p = k + 32) (h : UpE (dq (S - 32768) (-(p : Int))) x) (h2 : LoE x (dq (S + 32768) (-(p : Int)))) : EnA k (lnLo S) x:=by
 have c1:=cut_lo (dq (S - 32768) (-(p : Int))) (k : Int)
 rw [lnLo_cut hp] at c1
 refine ⟨h.mono c1, h2.mono ?_ (Rat.le_of_lt h.pos)⟩
 have e : dq (lnLo S) (-(k : Int)) + 2 * dq 1 (-(k : Int)) = dq ((lnLo S + 2) * 2 ^ 32) (-(p : Int)):=by
  have e2 : 2 * dq 1 (-(k : Int)) = dq 2 (-(k : Int)):=by rw [dq_scale 2]; rfl
  rw [e2, ← dq_addI]
  refine dq_eq (F := -(p : Int)) ?_ (by omega) (by omega)
  rw [show (-(k : Int) - -(p : Int)).toNat = 32 by omega, show (-(p : Int) - -(p : Int)).toNat = 0 by omega]
  simp
 rw [e]
 refine (dq_le_iff _ _ _).2 ?_
 unfold lnLo
 omega
theorem lnHi_en {S : Int} {k p : Nat} {x : Rat} (hp : p = k + 32) (h : UpE (dq (S - 32768) (-(p : Int))) x) (h2 : LoE x (dq (S + 32768) (-(p : Int)))) : EnB k (lnHi S) x:=by
 have c1:=cut_lo (-(dq (S + 32768) (-(p : Int)))) (k : Int)
 have e9 : cutQ (-(dq (S + 32768) (-(p : Int)))) (k : Int) = -(lnHi S):=by rw [← lnHi_cut hp, Int.neg_neg]
 rw [e9, dq_neg] at c1
 refine ⟨h.mono ?_, h2.mono ?_ (Rat.le_of_lt h.pos)⟩
 ·have e : dq (lnHi S) (-(k : Int)) - 2 * dq 1 (-(k : Int)) = dq ((lnHi S - 2) * 2 ^ 32) (-(p : Int)):=by
   have e2 : 2 * dq 1 (-(k : Int)) = dq 2 (-(k : Int)):=by rw [dq_scale 2]; rfl
   rw [e2, Rat.sub_eq_add_neg, ← dq_neg, ← dq_addI, ← Int.sub_eq_add_neg]
   refine dq_eq (F := -(p : Int)) ?_ (by omega) (by omega)
   rw [show (-(k : Int) - -(p : Int)).toNat = 32 by omega, show (-(p : Int) - -(p : Int)).toNat = 0 by omega]
   simp
  rw [e]
  refine (dq_le_iff _ _ _).2 ?_
  unfold lnHi cdv
  omega
 ·generalize dq (S + 32768) (-(p : Int)) = y at *
  generalize dq (lnHi S) (-(k : Int)) = z at *
  clear h h2 e9
  grind
theorem lnLo_abs {S : Int} {k j : Nat} (h : AbP S (j + 15)) (hj : j = k + 35) : AbP (lnLo S) (k + 19) ∧ AbP (lnHi S) (k + 19):=by
 have b : AbP 32768 (j + 15):=AbP.up (j:=15) (by unfold AbP; decide) (by omega)
 have h1:=h.add b.neg
 rw [← Int.sub_eq_add_neg] at h1
 have h2:=h.add b
 rw [show j + 15 + 1 = k + 19 + 32 by omega] at h1 h2
 exact ⟨h1.shr, h2.cshr⟩
theorem lnLo_any {S : Int} {j : Nat} (h : AbP S (j + 15)) : AbP (lnLo S) (j + 16) ∧ AbP (lnHi S) (j + 16):=by
 have b : AbP 32768 (j + 15):=AbP.up (j:=15) (by unfold AbP; decide) (by omega)
 have h1:=h.add b.neg
 rw [← Int.sub_eq_add_neg] at h1
 have h2:=h.add b
 exact ⟨h1.fl (pow2_pos 32), h2.cd (pow2_pos 32)⟩
theorem nx_margin {p q : Nat} (h : q + 15 = p) (hp : p ≤ 5000) : mkM 1 (-(q : Int)) = mkM 32768 (-(p : Int)) ∧ mkE 1 (-(q : Int)) = mkE 32768 (-(p : Int)) ∧ mkR 1 (-(q : Int)) = 0:=by
 obtain ⟨a1, _⟩:=nx (T:=1) (x := -(q : Int)) (j:=0) (by unfold AbP; decide) (by omega) (by omega)
 obtain ⟨b1, _⟩:=nx (T:=32768) (x := -(p : Int)) (j:=15) (by unfold AbP; decide) (by omega) (by omega)
 have:=mk_uniq a1 b1 (by
  refine dq_eq (F := -(p : Int)) ?_ (by omega) (by omega)
  rw [show (-(q : Int) - -(p : Int)).toNat = 15 by omega, show (-(p : Int) - -(p : Int)).toNat = 0 by omega]
  decide)
 exact ⟨this.1, this.2, a1⟩
def RetLn (w : World) (k : Nat) (m e n f : Int) (en : Ending) (w' : World) : Prop:=∃ a b : Int, (k ≤ 160 → (spK m e).natAbs ≤ 3000 → (spK n f).natAbs ≤ 3000 → EnA k a (dq m e) ∧ EnB k b (dq n f) ∧ AbP a (k + 19) ∧ AbP b (k + 19)) ∧ RetIE w (mkM a (-(k : Int))) (mkE a (-(k : Int))) (mkM b (-(k : Int))) (mkE b (-(k : Int))) 0 en w'
theorem okL_yes {k : Nat} (h : k ≤ 4096) : okL (k : Int) = true:=by
 unfold okL
 rw [decide_eq_true (show (0 : Int) ≤ (k : Int) by omega), decide_eq_true (show (k : Int) ≤ 4096 by omega)]
 rfl

theorem xln_dom (m e n f k : Int) (vx : Value) (w : World) (hx : IsI w vx m e n f) (hk : okL k = true) (ln : zl n ≤ 1000) (h0 : n ≤ 0) :
  Calls Tryz.prog 15 #[vx, .int .i64 k] w (RetIE w 0 0 0 0 4):=by
 obtain ⟨A, c, B, d, rfl, hn1, hn2⟩:=hx.form
 have L0:=((Lq.mk0 w).n hn2).n hn1
 have HP0:=fun W => lperm_any k W
 rw [hk] at HP0
 have HP:=Hd9 HP0
 have G1:=Hd9 (fun x W h => dsign_any n f x W h (by omega))
 obtain ⟨s, hs⟩:=nm9 (cmpI n 0)
 have hs0 : s ≤ 0:=by rw [← hs]; unfold cmpI; (repeat' split) <;> omega
 rw [hs] at G1
 clear HP0 hx hs ln h0
 go_enter Tryz.func15, Tryz.ntmps15
 have L:=((L0.varI (w.heap.size) (by simp) (ng m) A (zl m) c e (ng n) B (zl n) d f).varI (w.heap.size + 1) (by simp) false none 0 0 0 false none 0 0 0)
 obtain ⟨c00,c01,c02,c03,c04,c05⟩:=L.b0.a6
 obtain ⟨f00,f01,f02,f03,f04,f05⟩:=L.b0.f6
 obtain ⟨c10,c11,c12,c13,c14,c15⟩:=L.tl.b0.a6
 (try go_wp2_with fail)
 refine (HP.out _).mono ?_
 rintro e9 w' ⟨rfl, rfl⟩
 (try go_wp2_with fail)
 refine (G1.out _ _ (isD_n (m:=n) (e:=f) (s:=.slice B (zl n) d) (L.getN (by simp)))).mono ?_
 rintro e w1 ⟨rfl, be⟩
 clear c00 f00 c01 f01 c02 f02 c03 f03 c04 f04 c05 f05 c10 c11 c12 c13 c14 c15
 replace L:=L.step be
 clear be
 have d1 : decide (s ≤ 0) = true:=decide_eq_true hs0
 obtain ⟨c00,c01,c02,c03,c04,c05⟩:=L.b0.a6
 obtain ⟨f00,f01,f02,f03,f04,f05⟩:=L.b0.f6
 (try go_wp2_with fail)
 clear c00 f00 c01 f01 c02 f02 c03 f03 c04 f04 c05 f05
 have LP:=L.putI (by omega) (by first | (simp; done) | (simp; omega)) false none 0 0 0 false none 0 0 0
 obtain ⟨k0,k1,k2,k3,k4,k5⟩:=LP.b0.a6
 unfold put6 at k0 k1 k2 k3 k4 k5
 exact bodyPost_ret (v:=.tuple #[.agg #[.bool false, .slice none 0 0, .int .i64 0, .bool false, .slice none 0 0, .int .i64 0], .int .i64 4]) (by simp [results, Tryz.results15, go_sem, k0, k1, k2, k3, k4, k5]) rfl ⟨_, rfl, isI_zero _, LP.below⟩
theorem xln_unk (m e n f k : Int) (vx : Value) (w : World) (hx : IsI w vx m e n f) (hk : okL k = true) (ln : zl n ≤ 1000) (lm : zl m ≤ 1000) (h1 : 0 < n) (h0 : m ≤ 0) :
  Calls Tryz.prog 15 #[vx, .int .i64 k] w (RetIE w 0 0 0 0 5):=by
 obtain ⟨A, c, B, d, rfl, hn1, hn2⟩:=hx.form
 have L0:=((Lq.mk0 w).n hn2).n hn1
 have HP0:=fun W => lperm_any k W
 rw [hk] at HP0
 have HP:=Hd9 HP0
 have G1:=Hd9 (fun x W h => dsign_any n f x W h (by omega))
 have G2:=Hd9 (fun x W h => dsign_any m e x W h (by omega))
 obtain ⟨s, hs⟩:=nm9 (cmpI m 0)
 have hs0 : s ≤ 0:=by rw [← hs]; unfold cmpI; (repeat' split) <;> omega
 rw [hs] at G2
 rw [cmpI_gt h1] at G1
 clear HP0 hx hs lm ln h0 h1
 go_enter Tryz.func15, Tryz.ntmps15
 have L:=((L0.varI (w.heap.size) (by simp) (ng m) A (zl m) c e (ng n) B (zl n) d f).varI (w.heap.size + 1) (by simp) false none 0 0 0 false none 0 0 0)
 obtain ⟨c00,c01,c02,c03,c04,c05⟩:=L.b0.a6
 obtain ⟨f00,f01,f02,f03,f04,f05⟩:=L.b0.f6
 obtain ⟨c10,c11,c12,c13,c14,c15⟩:=L.tl.b0.a6
 (try go_wp2_with fail)
 refine (HP.out _).mono ?_
 rintro e9 w' ⟨rfl, rfl⟩
 (try go_wp2_with fail)
 refine (G1.out _ _ (isD_n (m:=n) (e:=f) (s:=.slice B (zl n) d) (L.getN (by simp)))).mono ?_
 rintro e w1 ⟨rfl, be⟩
 clear c00 f00 c01 f01 c02 f02 c03 f03 c04 f04 c05 f05 c10 c11 c12 c13 c14 c15
 replace L:=L.step be
 clear be
 obtain ⟨c00,c01,c02,c03,c04,c05⟩:=L.b0.a6
 obtain ⟨f00,f01,f02,f03,f04,f05⟩:=L.b0.f6
 obtain ⟨c10,c11,c12,c13,c14,c15⟩:=L.tl.b0.a6
 (try go_wp2_with fail)
 refine (G2.out _ _ (isD_n (m:=m) (e:=e) (s:=.slice A (zl m) c) (L.getN (by simp)))).mono ?_
 rintro e w2 ⟨rfl, be⟩
 clear c00 f00 c01 f01 c02 f02 c03 f03 c04 f04 c05 f05 c10 c11 c12 c13 c14 c15
 replace L:=L.step be
 clear be
 have d1 : decide (s ≤ 0) = true:=decide_eq_true hs0
 obtain ⟨c00,c01,c02,c03,c04,c05⟩:=L.b0.a6
 obtain ⟨f00,f01,f02,f03,f04,f05⟩:=L.b0.f6
 (try go_wp2_with fail)
 clear c00 f00 c01 f01 c02 f02 c03 f03 c04 f04 c05 f05
 have LP:=L.putI (by omega) (by first | (simp; done) | (simp; omega)) false none 0 0 0 false none 0 0 0
 obtain ⟨k0,k1,k2,k3,k4,k5⟩:=LP.b0.a6
 unfold put6 at k0 k1 k2 k3 k4 k5
 exact bodyPost_ret (v:=.tuple #[.agg #[.bool false, .slice none 0 0, .int .i64 0, .bool false, .slice none 0 0, .int .i64 0], .int .i64 5]) (by simp [results, Tryz.results15, go_sem, k0, k1, k2, k3, k4, k5]) rfl ⟨_, rfl, isI_zero _, LP.below⟩
theorem xln_yes (m e n f : Int) (k : Nat) (vx : Value) (w : World) (hx : IsI w vx m e n f) (lm : zl m ≤ 100) (ln : zl n ≤ 100) (he : -9000 ≤ e ∧ e ≤ 9000) (hf : -9000 ≤ f ∧ f ≤ 9000) (hv : Dv m e) (hv2 : Dv n f) (hm : 0 < m) (hsm : smallB m e n f = true) (hk : k ≤ 4096) (hT : Tab w) :
  Calls Tryz.prog 15 #[vx, .int .i64 (k : Int)] w (RetLn w k m e n f):=by
 obtain ⟨A, c, B, d, rfl, hn1, hn2⟩:=hx.form
 have L0:=((Lq.mk0 w).n hn2).n hn1
 have HT:=Hd9 (fun W (hW : Below w.heap.size w W) => hT.mono hW)
 have HP0:=fun W => lperm_any (k : Int) W
 rw [okL_yes hk] at HP0
 have HP:=Hd9 HP0
 have hmn : dcm m e n f ≤ 0:=by
  unfold smallB at hsm
  rw [Bool.and_eq_true] at hsm
  exact of_decide_eq_true hsm.1
 have hn : 0 < n:=by
  have h1:=(dcm_le m e n f).1 hmn
  have h2:=(dq_gt0 m e).2 hm
  refine (dq_gt0 n f).1 ?_
  generalize dq m e = x at *
  generalize dq n f = y at *
  grind
 have g1:=fun x W h => dsign_any n f x W h (by omega)
 have g2:=fun x W h => dsign_any m e x W h (by omega)
 rw [cmpI_gt hn] at g1
 rw [cmpI_gt hm] at g2
 have g3:=fun x W h => asmall_any m e n f x W h (by omega) (by omega) (by omega) (by omega) hv hv2
 rw [hsm] at g3
 obtain ⟨p, hp⟩:=nm9 (k + 32)
 obtain ⟨T, j, hTs, hL, hH, hj1, hj2, hL2⟩:=ln_L (p:=p) (by omega) (by omega)
 have g4:=fun W (hW : Below w.heap.size w W) => cln_yes p T W (by omega) (hT.mono hW) hTs
 have g5:=fun x y W h i (hW : Below w.heap.size w W) => llog_any m e (loC T) j p x y W h i hm hv lm he hL hj1 hj2 (by omega) (by omega) (hT.mono hW)
 have g6:=fun x y W h i => dcmp_any m e n f x y W h i (by omega) (by omega) (by omega) (by omega)
 rw [show cmpI (m * 2 ^ (e - min e f).toNat) (n * 2 ^ (f - min e f).toNat) = dcm m e n f from rfl] at g6
 have g7:=fun x y W h i (hW : Below w.heap.size w W) => llog_any n f (loC T) j p x y W h i hn hv2 ln hf hL hj1 hj2 (by omega) (by omega) (hT.mono hW)
 obtain ⟨q, hq⟩:=nm9 (k + 17)
 obtain ⟨u1, u2, u3⟩:=nx_margin (p:=p) (q:=q) (by omega) (by omega)
 obtain ⟨y1, y2, y3⟩:=g_yes (permN (p:=q) (by omega)) 1
 have g8:=fun W (hW : Below w.heap.size w W) => gunit_any (q : Int) W (by omega) (by omega) (hT.mono hW)
 rw [y1, y2, y3, u1, u2, u3] at g8
 have w1 : IntKind.i64.wrap ((k : Int) + 32) = (p : Int):=by rw [IntKind.wrap_i64]; omega
 have w2 : IntKind.i64.wrap ((p : Int) - 15) = (q : Int):=by rw [IntKind.wrap_i64]; omega
 have HQ:=Hd9 (And.intro hp (And.intro hk (And.intro hj1 (And.intro hj2 hL2))))
 have hcase : (dcm m e n f < 0) ∨ (m = n ∧ e = f ∧ dcm m e n f = 0):=by
  rcases Int.lt_or_le (dcm m e n f) 0 with q9 | q9
  ·exact Or.inl q9
  ·have q0 : dcm m e n f = 0:=by omega
   obtain ⟨a, b⟩:=(dcm_eq hv hv2).1 q0
   exact Or.inr ⟨a, b, q0⟩
 generalize dcm m e n f = cn at *
 clear hmn hn hTs hL hH hj1 hj2 hL2 u1 u2 u3 y1 y2 y3 hq hp hk hm hv hv2 lm ln he hf hsm hT hx HP0
 obtain ⟨ML, hML⟩:=nm9 (mkM (loC T) (-(p : Int)))
 obtain ⟨EL, hEL⟩:=nm9 (mkE (loC T) (-(p : Int)))
 rw [hML, hEL] at g4 g5 g7
 clear hML hEL
 generalize mkM (hiC T) (-(p : Int)) = MH at *
 generalize mkE (hiC T) (-(p : Int)) = EH at *
 obtain ⟨Mu, hMu⟩:=nm9 (mkM 32768 (-(p : Int)))
 obtain ⟨Eu, hEu⟩:=nm9 (mkE 32768 (-(p : Int)))
 rw [hMu, hEu] at g8
 have HMU:=Hd9 (And.intro hMu hEu)
 clear hMu hEu
 have G1:=Hd9 g1
 have G2:=Hd9 g2
 have G3:=Hd9 g3
 have G4:=Hd9 g4
 have G5:=Hd9 g5
 have G6:=Hd9 g6
 have G7:=Hd9 g7
 have G8:=Hd9 g8
 clear g1 g2 g3 g4 g5 g6 g7 g8
 rcases hcase with hlt | ⟨rfl, rfl, hlt⟩
 ·have d2 : decide (cn < 0) = true:=decide_eq_true hlt
  go_enter Tryz.func15, Tryz.ntmps15
  have L:=((L0.varI (w.heap.size) (by simp) (ng m) A (zl m) c e (ng n) B (zl n) d f).varI (w.heap.size + 1) (by simp) false none 0 0 0 false none 0 0 0)
  obtain ⟨c10,c11,c12,c13,c14,c15⟩:=L.tl.b0.a6
  (try go_wp2_with fail)
  refine (HP.out _).mono ?_
  rintro e9 w' ⟨rfl, rfl⟩
  (try go_wp2_with fail)
  refine (G1.out _ _ (isD_n (m:=n) (e:=f) (s:=.slice B (zl n) d) (L.getN (by simp)))).mono ?_
  rintro e w1 ⟨rfl, be⟩
  clear c10 c11 c12 c13 c14 c15
  replace L:=L.step be
  clear be
  obtain ⟨c10,c11,c12,c13,c14,c15⟩:=L.tl.b0.a6
  (try go_wp2_with fail)
  refine (G2.out _ _ (isD_n (m:=m) (e:=e) (s:=.slice A (zl m) c) (L.getN (by simp)))).mono ?_
  rintro e w2 ⟨rfl, be⟩
  clear c10 c11 c12 c13 c14 c15
  replace L:=L.step be
  clear be
  obtain ⟨c10,c11,c12,c13,c14,c15⟩:=L.tl.b0.a6
  (try go_wp2_with fail)
  refine (G3.out _ _ (isI_n (m:=m) (e:=e) (n:=n) (f:=f) (s:=.slice A (zl m) c) (t:=.slice B (zl n) d) (L.getN (by simp)) (L.getN (by simp)))).mono ?_
  rintro e w3 ⟨rfl, be⟩
  clear c10 c11 c12 c13 c14 c15
  replace L:=L.step be
  clear be
  (try go_wp2_with fail)
  refine (G4.out _ L.below).mono ?_
  rintro e w4 ⟨v9, rfl, ii, be⟩
  obtain ⟨A1, c1, B1, d1, rfl, ia, ib⟩:=ii.form
  replace L:=((L.step be).n ib).n ia
  clear be ii ia ib
  have hl9:=L.b0.lt
  replace L:=L.varI w4.heap.size rfl (ng ML) A1 (zl ML) c1 EL (ng MH) B1 (zl MH) d1 EH
  obtain ⟨c00,c01,c02,c03,c04,c05⟩:=L.b0.a6
  obtain ⟨c20,c21,c22,c23,c24,c25⟩:=L.tl.tl.b0.a6
  go_wp2_with fail
  clear c00 c01 c02 c03 c04 c05 c20 c21 c22 c23 c24 c25
  obtain ⟨g0, hg0⟩:=nm9 (w4.heap.size)
  rw [hg0] at L hl9 ⊢
  clear hg0
  have hl_g0:=hl9
  clear hl9
  refine (G5.out _ _ _ (isD_n (m:=m) (e:=e) (s:=.slice A (zl m) c) (L.getN (by simp))) (isD_n (m:=ML) (e:=EL) (s:=.slice A1 (zl ML) c1) (L.getN (by simp))) L.below).mono ?_
  rintro e w5 ⟨s1, ok1, hs1, v9, rfl, iz, be⟩
  obtain ⟨A2, c2, rfl, _, in9⟩:=iz.form
  replace L:=(L.step be).n in9
  clear be iz in9
  have hl9:=L.b0.lt
  obtain ⟨M1, hM1⟩:=nm9 (mkM s1 (-(p : Int)))
  obtain ⟨E1, hE1⟩:=nm9 (mkE s1 (-(p : Int)))
  rw [hM1] at L ⊢
  rw [hE1]
  have HW1:=Hd9 (And.intro ok1 (And.intro hs1 (And.intro hM1 hE1)))
  clear ok1 hs1 hM1 hE1
  replace L:=L.varD w5.heap.size rfl (ng M1) A2 (zl M1) c2 E1
  obtain ⟨c00,c01,c02⟩:=L.b0.a3
  replace L:=L.varD (w5.heap.size + 1) (by simp) (ng M1) A2 (zl M1) c2 E1
  obtain ⟨d00,d01,d02,d03,d04,d05⟩:=L.tl.tl.tl.tl.b0.a6
  (try go_wp2_with fail)
  clear c00 c01 c02 d00 d01 d02 d03 d04 d05
  obtain ⟨g1, hg1⟩:=nm9 (w5.heap.size)
  rw [hg1] at L hl9 ⊢
  clear hg1
  have hl_g1:=hl9
  clear hl9
  refine (G6.out _ _ _ (isD_n (m:=m) (e:=e) (s:=.slice A (zl m) c) (L.getN (by simp))) (isD_n (m:=n) (e:=f) (s:=.slice B (zl n) d) (L.getN (by simp)))).mono ?_
  rintro e w6 ⟨rfl, be⟩
  replace L:=L.step be
  clear be
  obtain ⟨c20,c21,c22,c23,c24,c25⟩:=L.tl.tl.b0.a6
  obtain ⟨c40,c41,c42,c43,c44,c45⟩:=L.tl.tl.tl.tl.b0.a6
  (try go_wp2_with fail)
  refine (G7.out _ _ _ (isD_n (m:=n) (e:=f) (s:=.slice B (zl n) d) (L.getN (by simp))) (isD_n (m:=ML) (e:=EL) (s:=.slice A1 (zl ML) c1) (L.getN (by simp))) L.below).mono ?_
  rintro e w7 ⟨s2, ok2, hs2, v9, rfl, iz, be⟩
  clear c20 c21 c22 c23 c24 c25 c40 c41 c42 c43 c44 c45
  obtain ⟨A3, c3, rfl, _, in9⟩:=iz.form
  replace L:=(L.step be).n in9
  clear be iz in9
  obtain ⟨M2, hM2⟩:=nm9 (mkM s2 (-(p : Int)))
  obtain ⟨E2, hE2⟩:=nm9 (mkE s2 (-(p : Int)))
  rw [hM2] at L ⊢
  rw [hE2]
  have HW2:=Hd9 (And.intro ok2 (And.intro hs2 (And.intro hM2 hE2)))
  clear ok2 hs2 hM2 hE2
  obtain ⟨c00,c01,c02⟩:=L.b0.a3
  obtain ⟨f00,f01,f02⟩:=L.b0.f3
  have P:=L.putD (by omega) (by simp; omega) (ng M2) A3 (zl M2) c3 E2
  unfold put3 at P
  (try go_wp2_with fail)
  replace L:=P
  clear P
  clear c00 f00 c01 f01 c02 f02
  refine (G8.out _ L.below).mono ?_
  rintro e w8 ⟨v9, rfl, iz, be⟩
  obtain ⟨A4, c4, rfl, _, in9⟩:=iz.form
  replace L:=(L.step be).n in9
  clear be iz in9
  have hl9:=L.b0.lt
  replace L:=L.varD w8.heap.size rfl (ng Mu) A4 (zl Mu) c4 Eu
  obtain ⟨c00,c01,c02⟩:=L.b0.a3
  obtain ⟨c20,c21,c22⟩:=L.tl.tl.b0.a3
  go_wp2_with fail
  clear c00 c01 c02 c20 c21 c22
  obtain ⟨gm, hgm⟩:=nm9 (w8.heap.size)
  rw [hgm] at L hl9 ⊢
  clear hgm
  have hl_gm:=hl9
  clear hl9
  obtain ⟨hmu, heu⟩:=HMU.out
  obtain ⟨hp, hk, hj1, hj2, hL2⟩:=HQ.out
  obtain ⟨ok1, hs1, hM1, hE1⟩:=HW1.out
  obtain ⟨ok2, hs2, hM2, hE2⟩:=HW2.out
  have a15 : AbP 32768 (j + 15):=AbP.up (j:=15) (by unfold AbP; decide) (by omega)
  have hpy : -6000 ≤ -(p : Int) ∧ -(p : Int) ≤ 100:=by omega
  have hpc : -4500 ≤ -(p : Int) ∧ -(p : Int) ≤ 0:=by omega
  obtain ⟨r1, r2, r3, _, _⟩:=nxc 10000 hs1 (by omega) hpc (by omega) (by omega)
  obtain ⟨t1, t2, t3, _, _⟩:=nxc 10000 a15 (by omega) hpc (by omega) (by omega)
  obtain ⟨b1, b2, b3⟩:=nx_sub hs1 a15 (by omega) hpy
  have g9:=fun x y W h i (hW : Below w.heap.size w W) => dsub_any (mkM s1 (-(p : Int))) (mkE s1 (-(p : Int))) (mkM 32768 (-(p : Int))) (mkE 32768 (-(p : Int))) x y W h i (by omega) (by omega) (by omega) (by omega) (HT.out W hW)
  rw [b1, b2, b3] at g9
  have al : AbP (s1 - 32768) (j + 16):=by rw [Int.sub_eq_add_neg]; exact hs1.add a15.neg
  obtain ⟨l1, l2, l3, l4, l5⟩:=nxc 10000 al (by omega) hpc (by omega) (by omega)
  obtain ⟨v1, v2, v3, _, _⟩:=nxc 10000 hs2 (by omega) hpc (by omega) (by omega)
  obtain ⟨c1', c2', c3'⟩:=nx_add hs2 a15 (by omega) hpy
  have g10:=fun x y W h i (hW : Below w.heap.size w W) => dadd_any (mkM s2 (-(p : Int))) (mkE s2 (-(p : Int))) (mkM 32768 (-(p : Int))) (mkE 32768 (-(p : Int))) x y W h i (by omega) (by omega) (by omega) (by omega) (HT.out W hW)
  rw [c1', c2', c3'] at g10
  have ah : AbP (s2 + 32768) (j + 16):=hs2.add a15
  obtain ⟨h1, h2, h3, h4, h5⟩:=nxc 10000 ah (by omega) hpc (by omega) (by omega)
  obtain ⟨la, _⟩:=lnLo_any hs1
  obtain ⟨_, lb⟩:=lnLo_any hs2
  obtain ⟨ra, _⟩:=nx (x := -(k : Int)) la (by omega) (by omega)
  obtain ⟨rb, _⟩:=nx (x := -(k : Int)) lb (by omega) (by omega)
  have ca:=lnLo_cut (S:=s1) hp.symm
  have cb:=lnHi_cut (S:=s2) hp.symm
  have g11:=fun x W h (hW : Below w.heap.size w W) => i10out_yes (mkM (s1 - 32768) (-(p : Int))) (mkE (s1 - 32768) (-(p : Int))) (mkM (s2 + 32768) (-(p : Int))) (mkE (s2 + 32768) (-(p : Int))) (k : Int) x W h (by omega) (by omega) (by omega) (by omega) (by omega) (by omega) (permN (by omega)) (by rw [l5, ca]; exact ra) (by rw [h5, cb]; exact rb) (HT.out W hW)
  rw [l5, h5, ca, cb] at g11
  have hres : k ≤ 160 → (spK m e).natAbs ≤ 3000 → (spK n f).natAbs ≤ 3000 → EnA k (lnLo s1) (dq m e) ∧ EnB k (lnHi s2) (dq n f) ∧ AbP (lnLo s1) (k + 19) ∧ AbP (lnHi s2) (k + 19):=fun h160 q1 q2 => by
   obtain ⟨ej, u1, u2⟩:=hL2 (by omega)
   obtain ⟨x1, x2⟩:=ok1 u1 u2 q1
   obtain ⟨x3, x4⟩:=ok2 u1 u2 q2
   exact ⟨lnLo_en hp.symm x1 x2, lnHi_en hp.symm x3 x4, (lnLo_abs hs1 (by omega)).1, (lnLo_abs hs2 (by omega)).2⟩
  rw [hM1, hE1, hmu, heu] at g9
  rw [hM2, hE2, hmu, heu] at g10
  obtain ⟨a, ha⟩:=nm9 (lnLo s1)
  obtain ⟨b, hb⟩:=nm9 (lnHi s2)
  rw [ha, hb] at g11 hres
  have HR:=Hd9 hres
  clear hres ca cb ra rb la lb l1 l2 l3 l4 l5 h1 h2 h3 h4 h5 al ah b1 b2 b3 c1' c2' c3' r1 r2 r3 t1 t2 t3 a15 hpy hpc hmu heu hp hk hj1 hj2 hL2 ok1 hs1 hM1 hE1 ha hb ok2 hs2 hM2 hE2 v1 v2 v3
  generalize mkM (s1 - 32768) (-(p : Int)) = Mo at *
  generalize mkE (s1 - 32768) (-(p : Int)) = Eo at *
  generalize mkM (s2 + 32768) (-(p : Int)) = Mi at *
  generalize mkE (s2 + 32768) (-(p : Int)) = Ei at *
  obtain ⟨Ma, hMa⟩:=nm9 (mkM a (-(k : Int)))
  obtain ⟨Ea, hEa⟩:=nm9 (mkE a (-(k : Int)))
  obtain ⟨Nb, hNb⟩:=nm9 (mkM b (-(k : Int)))
  obtain ⟨Fb, hFb⟩:=nm9 (mkE b (-(k : Int)))
  rw [hMa, hEa, hNb, hFb] at g11
  have HN:=Hd9 (And.intro (And.intro hMa hEa) (And.intro hNb hFb))
  have G9:=Hd9 g9
  have G10:=Hd9 g10
  have G11:=Hd9 g11
  clear g9 g10 g11 hMa hEa hNb hFb
  refine (G9.out _ _ _ (isD_n (m:=M1) (e:=E1) (s:=.slice A2 (zl M1) c2) (L.getN (by simp))) (isD_n (m:=Mu) (e:=Eu) (s:=.slice A4 (zl Mu) c4) (L.getN (by simp))) L.below).mono ?_
  rintro e w9 ⟨v9, rfl, iz, be⟩
  obtain ⟨A5, c5, rfl, _, in9⟩:=iz.form
  replace L:=(L.step be).n in9
  clear be iz in9
  have hl9:=L.b0.lt
  replace L:=L.varD w9.heap.size rfl (ng Mo) A5 (zl Mo) c5 Eo
  obtain ⟨c10,c11,c12⟩:=L.tl.b0.a3
  obtain ⟨c20,c21,c22⟩:=L.tl.tl.b0.a3
  go_wp2_with fail
  clear c10 c11 c12 c20 c21 c22
  obtain ⟨gl, hgl⟩:=nm9 (w9.heap.size)
  rw [hgl] at L hl9 ⊢
  clear hgl
  have hl_gl:=hl9
  clear hl9
  refine (G10.out _ _ _ (isD_n (m:=M2) (e:=E2) (s:=.slice A3 (zl M2) c3) (L.getN (by simp))) (isD_n (m:=Mu) (e:=Eu) (s:=.slice A4 (zl Mu) c4) (L.getN (by simp))) L.below).mono ?_
  rintro e w10 ⟨v9, rfl, iz, be⟩
  obtain ⟨A6, c6, rfl, _, in9⟩:=iz.form
  replace L:=(L.step be).n in9
  clear be iz in9
  have hl9:=L.b0.lt
  replace L:=L.varD w10.heap.size rfl (ng Mi) A6 (zl Mi) c6 Ei
  obtain ⟨c00,c01,c02⟩:=L.b0.a3
  obtain ⟨c10,c11,c12⟩:=L.tl.b0.a3
  go_wp2_with fail
  clear c00 c01 c02 c10 c11 c12
  obtain ⟨gh, hgh⟩:=nm9 (w10.heap.size)
  rw [hgh] at L hl9 ⊢
  clear hgh
  have hl_gh:=hl9
  clear hl9
  refine (G11.out _ _ (isI_n (m:=Mo) (e:=Eo) (n:=Mi) (f:=Ei) (s:=.slice A5 (zl Mo) c5) (t:=.slice A6 (zl Mi) c6) (L.getN (by simp)) (L.getN (by simp))) L.below).mono ?_
  rintro e w11 ⟨v2, rfl, ii, be⟩
  obtain ⟨A8, c8, B8, d8, rfl, ia, ib⟩:=ii.form
  replace L:=((L.step be).n ib).n ia
  clear be ii ia ib
  have L9:=L.subx (ns':=[(.slice A8 (zl Ma) c8, Ma.natAbs), (.slice B8 (zl Nb) d8, Nb.natAbs)]) (bs':=[(w.heap.size + 1, 28, #[.bool false, .slice none 0 0, .int .i64 0, .bool false, .slice none 0 0, .int .i64 0])]) (by simp) (by simp)
  clear L
  have L:=L9
  clear L9
  obtain ⟨c00,c01,c02,c03,c04,c05⟩:=L.b0.a6
  obtain ⟨f00,f01,f02,f03,f04,f05⟩:=L.b0.f6
  go_wp2_with fail
  clear c00 f00 c01 f01 c02 f02 c03 f03 c04 f04 c05 f05
  have hR:=HR.out
  obtain ⟨⟨hMa, hEa⟩, hNb, hFb⟩:=HN.out
  subst hMa hEa hNb hFb
  have LP:=L.putI (by omega) (by first | (simp; done) | (simp; omega)) (ng (mkM a (-(k : Int)))) A8 (zl (mkM a (-(k : Int)))) c8 (mkE a (-(k : Int))) (ng (mkM b (-(k : Int)))) B8 (zl (mkM b (-(k : Int)))) d8 (mkE b (-(k : Int)))
  obtain ⟨k0,k1,k2,k3,k4,k5⟩:=LP.b0.a6
  unfold put6 at k0 k1 k2 k3 k4 k5
  exact bodyPost_ret (v:=.tuple #[.agg #[.bool (ng (mkM a (-(k : Int)))), .slice A8 (zl (mkM a (-(k : Int)))) c8, .int .i64 (mkE a (-(k : Int))), .bool (ng (mkM b (-(k : Int)))), .slice B8 (zl (mkM b (-(k : Int)))) d8, .int .i64 (mkE b (-(k : Int)))], .int .i64 0]) (by simp [results, Tryz.results15, go_sem, k0, k1, k2, k3, k4, k5]) rfl ⟨a, b, hR, _, rfl, isI_n (LP.getN (by simp)) (LP.getN (by simp)), LP.below⟩
 ·have d2 : decide (cn < 0) = false:=decide_eq_false (by omega)
  go_enter Tryz.func15, Tryz.ntmps15
  have L:=((L0.varI (w.heap.size) (by simp) (ng m) A (zl m) c e (ng m) B (zl m) d e).varI (w.heap.size + 1) (by simp) false none 0 0 0 false none 0 0 0)
  obtain ⟨c10,c11,c12,c13,c14,c15⟩:=L.tl.b0.a6
  (try go_wp2_with fail)
  refine (HP.out _).mono ?_
  rintro e9 w' ⟨rfl, rfl⟩
  (try go_wp2_with fail)
  refine (G1.out _ _ (isD_n (m:=m) (e:=e) (s:=.slice B (zl m) d) (L.getN (by simp)))).mono ?_
  rintro e w1 ⟨rfl, be⟩
  clear c10 c11 c12 c13 c14 c15
  replace L:=L.step be
  clear be
  obtain ⟨c10,c11,c12,c13,c14,c15⟩:=L.tl.b0.a6
  (try go_wp2_with fail)
  refine (G2.out _ _ (isD_n (m:=m) (e:=e) (s:=.slice A (zl m) c) (L.getN (by simp)))).mono ?_
  rintro e w2 ⟨rfl, be⟩
  clear c10 c11 c12 c13 c14 c15
  replace L:=L.step be
  clear be
  obtain ⟨c10,c11,c12,c13,c14,c15⟩:=L.tl.b0.a6
  (try go_wp2_with fail)
  refine (G3.out _ _ (isI_n (m:=m) (e:=e) (n:=m) (f:=e) (s:=.slice A (zl m) c) (t:=.slice B (zl m) d) (L.getN (by simp)) (L.getN (by simp)))).mono ?_
  rintro e w3 ⟨rfl, be⟩
  clear c10 c11 c12 c13 c14 c15
  replace L:=L.step be
  clear be
  (try go_wp2_with fail)
  refine (G4.out _ L.below).mono ?_
  rintro e w4 ⟨v9, rfl, ii, be⟩
  obtain ⟨A1, c1, B1, d1, rfl, ia, ib⟩:=ii.form
  replace L:=((L.step be).n ib).n ia
  clear be ii ia ib
  have hl9:=L.b0.lt
  replace L:=L.varI w4.heap.size rfl (ng ML) A1 (zl ML) c1 EL (ng MH) B1 (zl MH) d1 EH
  obtain ⟨c00,c01,c02,c03,c04,c05⟩:=L.b0.a6
  obtain ⟨c20,c21,c22,c23,c24,c25⟩:=L.tl.tl.b0.a6
  go_wp2_with fail
  clear c00 c01 c02 c03 c04 c05 c20 c21 c22 c23 c24 c25
  obtain ⟨g0, hg0⟩:=nm9 (w4.heap.size)
  rw [hg0] at L hl9 ⊢
  clear hg0
  have hl_g0:=hl9
  clear hl9
  refine (G5.out _ _ _ (isD_n (m:=m) (e:=e) (s:=.slice A (zl m) c) (L.getN (by simp))) (isD_n (m:=ML) (e:=EL) (s:=.slice A1 (zl ML) c1) (L.getN (by simp))) L.below).mono ?_
  rintro e w5 ⟨s1, ok1, hs1, v9, rfl, iz, be⟩
  obtain ⟨A2, c2, rfl, _, in9⟩:=iz.form
  replace L:=(L.step be).n in9
  clear be iz in9
  have hl9:=L.b0.lt
  obtain ⟨M1, hM1⟩:=nm9 (mkM s1 (-(p : Int)))
  obtain ⟨E1, hE1⟩:=nm9 (mkE s1 (-(p : Int)))
  rw [hM1] at L ⊢
  rw [hE1]
  have HW1:=Hd9 (And.intro ok1 (And.intro hs1 (And.intro hM1 hE1)))
  clear ok1 hs1 hM1 hE1
  replace L:=L.varD w5.heap.size rfl (ng M1) A2 (zl M1) c2 E1
  obtain ⟨c00,c01,c02⟩:=L.b0.a3
  replace L:=L.varD (w5.heap.size + 1) (by simp) (ng M1) A2 (zl M1) c2 E1
  obtain ⟨d00,d01,d02,d03,d04,d05⟩:=L.tl.tl.tl.tl.b0.a6
  (try go_wp2_with fail)
  clear c00 c01 c02 d00 d01 d02 d03 d04 d05
  obtain ⟨g1, hg1⟩:=nm9 (w5.heap.size)
  rw [hg1] at L hl9 ⊢
  clear hg1
  have hl_g1:=hl9
  clear hl9
  refine (G6.out _ _ _ (isD_n (m:=m) (e:=e) (s:=.slice A (zl m) c) (L.getN (by simp))) (isD_n (m:=m) (e:=e) (s:=.slice B (zl m) d) (L.getN (by simp)))).mono ?_
  rintro e w6 ⟨rfl, be⟩
  replace L:=L.step be
  clear be
  (try go_wp2_with fail)
  refine (G8.out _ L.below).mono ?_
  rintro e w7 ⟨v9, rfl, iz, be⟩
  obtain ⟨A4, c4, rfl, _, in9⟩:=iz.form
  replace L:=(L.step be).n in9
  clear be iz in9
  have hl9:=L.b0.lt
  replace L:=L.varD w7.heap.size rfl (ng Mu) A4 (zl Mu) c4 Eu
  obtain ⟨c00,c01,c02⟩:=L.b0.a3
  obtain ⟨c20,c21,c22⟩:=L.tl.tl.b0.a3
  go_wp2_with fail
  clear c00 c01 c02 c20 c21 c22
  obtain ⟨gm, hgm⟩:=nm9 (w7.heap.size)
  rw [hgm] at L hl9 ⊢
  clear hgm
  have hl_gm:=hl9
  clear hl9
  obtain ⟨hmu, heu⟩:=HMU.out
  obtain ⟨hp, hk, hj1, hj2, hL2⟩:=HQ.out
  obtain ⟨ok1, hs1, hM1, hE1⟩:=HW1.out
  have a15 : AbP 32768 (j + 15):=AbP.up (j:=15) (by unfold AbP; decide) (by omega)
  have hpy : -6000 ≤ -(p : Int) ∧ -(p : Int) ≤ 100:=by omega
  have hpc : -4500 ≤ -(p : Int) ∧ -(p : Int) ≤ 0:=by omega
  obtain ⟨r1, r2, r3, _, _⟩:=nxc 10000 hs1 (by omega) hpc (by omega) (by omega)
  obtain ⟨t1, t2, t3, _, _⟩:=nxc 10000 a15 (by omega) hpc (by omega) (by omega)
  obtain ⟨b1, b2, b3⟩:=nx_sub hs1 a15 (by omega) hpy
  have g9:=fun x y W h i (hW : Below w.heap.size w W) => dsub_any (mkM s1 (-(p : Int))) (mkE s1 (-(p : Int))) (mkM 32768 (-(p : Int))) (mkE 32768 (-(p : Int))) x y W h i (by omega) (by omega) (by omega) (by omega) (HT.out W hW)
  rw [b1, b2, b3] at g9
  have al : AbP (s1 - 32768) (j + 16):=by rw [Int.sub_eq_add_neg]; exact hs1.add a15.neg
  obtain ⟨l1, l2, l3, l4, l5⟩:=nxc 10000 al (by omega) hpc (by omega) (by omega)
  obtain ⟨c1', c2', c3'⟩:=nx_add hs1 a15 (by omega) hpy
  have g10:=fun x y W h i (hW : Below w.heap.size w W) => dadd_any (mkM s1 (-(p : Int))) (mkE s1 (-(p : Int))) (mkM 32768 (-(p : Int))) (mkE 32768 (-(p : Int))) x y W h i (by omega) (by omega) (by omega) (by omega) (HT.out W hW)
  rw [c1', c2', c3'] at g10
  have ah : AbP (s1 + 32768) (j + 16):=hs1.add a15
  obtain ⟨h1, h2, h3, h4, h5⟩:=nxc 10000 ah (by omega) hpc (by omega) (by omega)
  obtain ⟨la, _⟩:=lnLo_any hs1
  obtain ⟨_, lb⟩:=lnLo_any hs1
  obtain ⟨ra, _⟩:=nx (x := -(k : Int)) la (by omega) (by omega)
  obtain ⟨rb, _⟩:=nx (x := -(k : Int)) lb (by omega) (by omega)
  have ca:=lnLo_cut (S:=s1) hp.symm
  have cb:=lnHi_cut (S:=s1) hp.symm
  have g11:=fun x W h (hW : Below w.heap.size w W) => i10out_yes (mkM (s1 - 32768) (-(p : Int))) (mkE (s1 - 32768) (-(p : Int))) (mkM (s1 + 32768) (-(p : Int))) (mkE (s1 + 32768) (-(p : Int))) (k : Int) x W h (by omega) (by omega) (by omega) (by omega) (by omega) (by omega) (permN (by omega)) (by rw [l5, ca]; exact ra) (by rw [h5, cb]; exact rb) (HT.out W hW)
  rw [l5, h5, ca, cb] at g11
  have hres : k ≤ 160 → (spK m e).natAbs ≤ 3000 → (spK m e).natAbs ≤ 3000 → EnA k (lnLo s1) (dq m e) ∧ EnB k (lnHi s1) (dq m e) ∧ AbP (lnLo s1) (k + 19) ∧ AbP (lnHi s1) (k + 19):=fun h160 q1 q2 => by
   obtain ⟨ej, u1, u2⟩:=hL2 (by omega)
   obtain ⟨x1, x2⟩:=ok1 u1 u2 q1
   obtain ⟨x3, x4⟩:=ok1 u1 u2 q2
   exact ⟨lnLo_en hp.symm x1 x2, lnHi_en hp.symm x3 x4, (lnLo_abs hs1 (by omega)).1, (lnLo_abs hs1 (by omega)).2⟩
  rw [hM1, hE1, hmu, heu] at g9
  rw [hM1, hE1, hmu, heu] at g10
  obtain ⟨a, ha⟩:=nm9 (lnLo s1)
  obtain ⟨b, hb⟩:=nm9 (lnHi s1)
  rw [ha, hb] at g11 hres
  have HR:=Hd9 hres
  clear hres ca cb ra rb la lb l1 l2 l3 l4 l5 h1 h2 h3 h4 h5 al ah b1 b2 b3 c1' c2' c3' r1 r2 r3 t1 t2 t3 a15 hpy hpc hmu heu hp hk hj1 hj2 hL2 ok1 hs1 hM1 hE1 ha hb
  generalize mkM (s1 - 32768) (-(p : Int)) = Mo at *
  generalize mkE (s1 - 32768) (-(p : Int)) = Eo at *
  generalize mkM (s1 + 32768) (-(p : Int)) = Mi at *
  generalize mkE (s1 + 32768) (-(p : Int)) = Ei at *
  obtain ⟨Ma, hMa⟩:=nm9 (mkM a (-(k : Int)))
  obtain ⟨Ea, hEa⟩:=nm9 (mkE a (-(k : Int)))
  obtain ⟨Nb, hNb⟩:=nm9 (mkM b (-(k : Int)))
  obtain ⟨Fb, hFb⟩:=nm9 (mkE b (-(k : Int)))
  rw [hMa, hEa, hNb, hFb] at g11
  have HN:=Hd9 (And.intro (And.intro hMa hEa) (And.intro hNb hFb))
  have G9:=Hd9 g9
  have G10:=Hd9 g10
  have G11:=Hd9 g11
  clear g9 g10 g11 hMa hEa hNb hFb
  refine (G9.out _ _ _ (isD_n (m:=M1) (e:=E1) (s:=.slice A2 (zl M1) c2) (L.getN (by simp))) (isD_n (m:=Mu) (e:=Eu) (s:=.slice A4 (zl Mu) c4) (L.getN (by simp))) L.below).mono ?_
  rintro e w8 ⟨v9, rfl, iz, be⟩
  obtain ⟨A5, c5, rfl, _, in9⟩:=iz.form
  replace L:=(L.step be).n in9
  clear be iz in9
  have hl9:=L.b0.lt
  replace L:=L.varD w8.heap.size rfl (ng Mo) A5 (zl Mo) c5 Eo
  obtain ⟨c10,c11,c12⟩:=L.tl.b0.a3
  obtain ⟨c20,c21,c22⟩:=L.tl.tl.b0.a3
  go_wp2_with fail
  clear c10 c11 c12 c20 c21 c22
  obtain ⟨gl, hgl⟩:=nm9 (w8.heap.size)
  rw [hgl] at L hl9 ⊢
  clear hgl
  have hl_gl:=hl9
  clear hl9
  refine (G10.out _ _ _ (isD_n (m:=M1) (e:=E1) (s:=.slice A2 (zl M1) c2) (L.getN (by simp))) (isD_n (m:=Mu) (e:=Eu) (s:=.slice A4 (zl Mu) c4) (L.getN (by simp))) L.below).mono ?_
  rintro e w9 ⟨v9, rfl, iz, be⟩
  obtain ⟨A6, c6, rfl, _, in9⟩:=iz.form
  replace L:=(L.step be).n in9
  clear be iz in9
  have hl9:=L.b0.lt
  replace L:=L.varD w9.heap.size rfl (ng Mi) A6 (zl Mi) c6 Ei
  obtain ⟨c00,c01,c02⟩:=L.b0.a3
  obtain ⟨c10,c11,c12⟩:=L.tl.b0.a3
  go_wp2_with fail
  clear c00 c01 c02 c10 c11 c12
  obtain ⟨gh, hgh⟩:=nm9 (w9.heap.size)
  rw [hgh] at L hl9 ⊢
  clear hgh
  have hl_gh:=hl9
  clear hl9
  refine (G11.out _ _ (isI_n (m:=Mo) (e:=Eo) (n:=Mi) (f:=Ei) (s:=.slice A5 (zl Mo) c5) (t:=.slice A6 (zl Mi) c6) (L.getN (by simp)) (L.getN (by simp))) L.below).mono ?_
  rintro e w10 ⟨v2, rfl, ii, be⟩
  obtain ⟨A8, c8, B8, d8, rfl, ia, ib⟩:=ii.form
  replace L:=((L.step be).n ib).n ia
  clear be ii ia ib
  have L9:=L.subx (ns':=[(.slice A8 (zl Ma) c8, Ma.natAbs), (.slice B8 (zl Nb) d8, Nb.natAbs)]) (bs':=[(w.heap.size + 1, 28, #[.bool false, .slice none 0 0, .int .i64 0, .bool false, .slice none 0 0, .int .i64 0])]) (by simp) (by simp)
  clear L
  have L:=L9
  clear L9
  obtain ⟨c00,c01,c02,c03,c04,c05⟩:=L.b0.a6
  obtain ⟨f00,f01,f02,f03,f04,f05⟩:=L.b0.f6
  go_wp2_with fail
  clear c00 f00 c01 f01 c02 f02 c03 f03 c04 f04 c05 f05
  have hR:=HR.out
  obtain ⟨⟨hMa, hEa⟩, hNb, hFb⟩:=HN.out
  subst hMa hEa hNb hFb
  have LP:=L.putI (by omega) (by first | (simp; done) | (simp; omega)) (ng (mkM a (-(k : Int)))) A8 (zl (mkM a (-(k : Int)))) c8 (mkE a (-(k : Int))) (ng (mkM b (-(k : Int)))) B8 (zl (mkM b (-(k : Int)))) d8 (mkE b (-(k : Int)))
  obtain ⟨k0,k1,k2,k3,k4,k5⟩:=LP.b0.a6
  unfold put6 at k0 k1 k2 k3 k4 k5
  exact bodyPost_ret (v:=.tuple #[.agg #[.bool (ng (mkM a (-(k : Int)))), .slice A8 (zl (mkM a (-(k : Int)))) c8, .int .i64 (mkE a (-(k : Int))), .bool (ng (mkM b (-(k : Int)))), .slice B8 (zl (mkM b (-(k : Int)))) d8, .int .i64 (mkE b (-(k : Int)))], .int .i64 0]) (by simp [results, Tryz.results15, go_sem, k0, k1, k2, k3, k4, k5]) rfl ⟨a, b, hR, _, rfl, isI_n (LP.getN (by simp)) (LP.getN (by simp)), LP.below⟩

theorem n_1 : mkM 1 0 = 1 ∧ mkE 1 0 = 0:=by
 have hv : Dv 1 0:=Or.inr ⟨by decide, by decide +kernel⟩
 exact (dv_mk hv (Nat.le_trans (len_le1 (show 1 < 4294967296 by omega)) (by omega)) (by omega)).2
theorem n_m1 : mkM (-1) 0 = -1 ∧ mkE (-1) 0 = 0:=by
 have hv : Dv (-1) 0:=Or.inr ⟨by decide, by decide +kernel⟩
 exact (dv_mk hv (Nat.le_trans (len_le1 (show (-1 : Int).natAbs < 4294967296 by decide)) (by omega)) (by omega)).2
theorem n_4 : mkM 4 0 = 1 ∧ mkE 4 0 = 2:=by
 obtain ⟨a1, _, _, _, _, a6⟩:=nf (t:=4) (v:=2) (by unfold AbP; decide) (by omega)
 have hv : Dv 1 2:=Or.inr ⟨by decide, by decide +kernel⟩
 exact dv_uniq (mk_ok a1) hv (by rw [a6]; decide +kernel)
theorem sp_4 : spK 1 2 = 2 ∧ spE 1 = 0:=by
 have h : spN 1 = 1:=blen_of (n:=0) (by decide) (by decide)
 unfold spK spE spB
 rw [h]
 decide
theorem zl_one : zl 1 ≤ 1:=len_le1 (show 1 < 4294967296 by omega)
theorem zl_mone : zl (-1) ≤ 1:=len_le1 (show (-1 : Int).natAbs < 4294967296 by decide)
theorem zl_nil : zl 0 ≤ 1:=len_le1 (show 0 < 4294967296 by omega)

theorem awake15_any (w : World) (hT : Tab w) :
  Calls Tryz.prog 11 #[] w (RetB w true):=by
 have z1:=zl_one
 have z2:=zl_mone
 have z0:=zl_nil
 have g1:=fun W => of15_any 0 1 W (by omega) (by omega)
 rw [nf00.1, nf00.2, n_1.1, n_1.2] at g1
 have g2:=fun v W h => xln_unk 0 0 1 0 5 v W h (by decide) (by omega) (by omega) (by decide) (by omega)
 have g3:=fun W => of15_any (-1) 0 W (by omega) (by omega)
 obtain ⟨q, hq⟩ : ∃ q : Int, (-1 : Int) = q:=⟨_, rfl⟩
 have nq : mkM (-1) 0 = q ∧ mkE (-1) 0 = 0:=by rw [← hq]; exact n_m1
 rw [nf00.1, nf00.2, nq.1, nq.2] at g3
 have g4:=fun v W h => xln_dom q 0 0 0 5 v W h (by decide) (by omega) (by omega)
 clear nq hq
 have g5:=fun W => rof8_any 4 W (by omega) (by omega)
 rw [n_4.1, n_4.2] at g5
 have hv : Dv 1 2:=Or.inr ⟨by decide, by decide +kernel⟩
 have g6:=fun v W h (hW : Below w.heap.size w W) => lsplit_any 1 2 v W h (by decide) hv (by omega) (by omega) (hT.mono hW)
 rw [sp_4.1, sp_4.2] at g6
 have g7:=fun W => rof8_any 1 W (by omega) (by omega)
 rw [n_1.1, n_1.2] at g7
 have g8 : ∀ v u W, IsD W v 1 0 → IsD W u 1 0 → Calls Tryz.prog 43 #[v, u] W (RetB W true):=fun v u W h k => by
  have s:=same8_any 1 0 1 0 v u W h k
  rwa [show (decide ((0 : Int) = 0) && decide ((1 : Int) = 1)) = true from by decide] at s
 clear hv hT
 have G1:=Hd9 g1
 have G2:=Hd9 g2
 have G3:=Hd9 g3
 have G4:=Hd9 g4
 have G5:=Hd9 g5
 have G6:=Hd9 g6
 have G7:=Hd9 g7
 have G8:=Hd9 g8
 clear g1 g2 g3 g4 g5 g6 g7 g8
 go_enter Tryz.func11, Tryz.ntmps11
 go_wp2_with fail
 have L:=Lq.mk0 w
 (try go_wp2_with fail)
 refine (G1.out _).mono ?_
 rintro e w1 ⟨vv, rfl, ii, be⟩
 obtain ⟨A1, c1, B1, d1, rfl, ia, ib⟩:=ii.form
 replace L:=((L.step be).n ib).n ia
 clear be ii ia ib
 have hl2:=L.below.size
 (try go_wp2_with fail)
 refine (G2.out _ _ (isI_n (m:=0) (e:=0) (n:=1) (f:=0) (s:=.slice A1 (zl 0) c1) (t:=.slice B1 (zl 1) d1) (L.getN (by simp)) (L.getN (by simp)))).mono ?_
 rintro e w2 ⟨vv, rfl, ii, be⟩
 obtain ⟨A2, c2, B2, d2, rfl, ia, ib⟩:=ii.form
 replace L:=((L.step be).n ib).n ia
 clear be ii ia ib hl2
 have hl2:=L.below.size
 replace L:=L.varI w2.heap.size rfl (ng 0) A2 (zl 0) c2 0 (ng 0) B2 (zl 0) d2 0
 obtain ⟨cel00,cel01,cel02,cel03,cel04,cel05⟩:=L.b0.a6
 obtain ⟨f00,f01,f02,f03,f04,f05⟩:=L.b0.f6
 go_wp2_with fail
 clear cel00 f00 cel01 f01 cel02 f02 cel03 f03 cel04 f04 cel05 f05
 obtain ⟨b1, hb1⟩:=nm9 (w2.heap.size)
 rw [hb1] at L hl2 ⊢
 clear hb1
 refine (G3.out _).mono ?_
 rintro e w3 ⟨vv, rfl, ii, be⟩
 obtain ⟨A3, c3, B3, d3, rfl, ia, ib⟩:=ii.form
 replace L:=((L.step be).n ib).n ia
 clear be ii ia ib
 clear hl2
 have hl2:=L.b0.lt
 (try go_wp2_with fail)
 refine (G4.out _ _ (isI_n (m:=q) (e:=0) (n:=0) (f:=0) (s:=.slice A3 (zl q) c3) (t:=.slice B3 (zl 0) d3) (L.getN (by simp)) (L.getN (by simp)))).mono ?_
 rintro e w4 ⟨vv, rfl, ii, be⟩
 obtain ⟨A4, c4, B4, d4, rfl, ia, ib⟩:=ii.form
 replace L:=((L.step be).n ib).n ia
 clear be ii ia ib hl2
 have hl2:=L.b0.lt
 replace L:=L.varI w4.heap.size rfl (ng 0) A4 (zl 0) c4 0 (ng 0) B4 (zl 0) d4 0
 obtain ⟨cel00,cel01,cel02,cel03,cel04,cel05⟩:=L.b0.a6
 obtain ⟨f00,f01,f02,f03,f04,f05⟩:=L.b0.f6
 go_wp2_with fail
 clear cel00 f00 cel01 f01 cel02 f02 cel03 f03 cel04 f04 cel05 f05
 obtain ⟨b2, hb2⟩:=nm9 (w4.heap.size)
 rw [hb2] at L hl2 ⊢
 clear hb2
 refine (G5.out _).mono ?_
 rintro e w5 ⟨v9, rfl, iz, be⟩
 obtain ⟨A5, c5, rfl, _, in9⟩:=iz.form
 replace L:=(L.step be).n in9
 clear be iz in9
 (try go_wp2_with fail)
 refine (G6.out _ _ (isD_n (m:=1) (e:=2) (s:=.slice A5 (zl 1) c5) (L.getN (by simp))) L.below).mono ?_
 rintro e w6 ⟨v9, rfl, iz, be⟩
 obtain ⟨A6, c6, rfl, _, in9⟩:=iz.form
 replace L:=(L.step be).n in9
 clear be iz in9
 have hl9:=L.b0.lt
 clear hl2
 have hl2:=hl9
 clear hl9
 replace L:=L.varD w6.heap.size rfl (ng 1) A6 (zl 1) c6 0
 obtain ⟨cel00,cel01,cel02⟩:=L.b0.a3
 obtain ⟨f00,f01,f02⟩:=L.b0.f3
 go_wp2_with fail
 clear cel00 f00 cel01 f01 cel02 f02
 obtain ⟨b3, hb3⟩:=nm9 (w6.heap.size)
 rw [hb3] at L hl2 ⊢
 clear hb3
 replace L:=L.drew
 obtain ⟨cel00,cel01,cel02⟩:=L.b0.a3
 go_region_held3 (fun w' => w'.cell? ⟨b3, 0, none⟩ = some (.bool (ng 1)) ∧ w'.cell? ⟨b3, 1, none⟩ = some (.slice A6 (zl 1) c6) ∧ w'.cell? ⟨b3, 2, none⟩ = some (.int .i64 0)) (first | (with_reducible exact ⟨L.b0.c30, L.b0.c31, L.b0.c32⟩) | exact ⟨L.b0.c30, L.b0.c31, L.b0.c32⟩) (first | (go_at_call 42; (with_reducible refine (G7.out _ ).mono ?_); rintro e wh ⟨vh, rfl, id, be⟩; obtain ⟨A7, c7, rfl, _, in9⟩:=id.form; replace L:=(L.step be).n in9; clear be id in9) | (go_at_call 43; (with_reducible refine (G8.out _ _ _ ?_ ?_ ).mono ?_); (· (refine isD_n (L.getN ?_); (repeat (first | (with_reducible exact mS) | apply mT)))); (· (refine isD_n (L.getN ?_); (repeat (first | (with_reducible exact mS) | apply mT)))); rintro e wh ⟨rfl, be⟩; replace L:=L.step be; clear be))
 (try go_wp2_with fail)
 (try go_ret)
 exact ⟨rfl, L.below⟩

theorem mk_val11 {m e : Int} {z : Nat} {M : Int} (h : mkR m e = 0) (hm : m ≠ 0) (hz : tz m.natAbs = z) (ho : oddM m = M) : mkM m e = M ∧ mkE m e = e + (z : Int):=by
 unfold mkM mkE
 rw [h, if_pos rfl, if_neg hm, if_pos rfl, ho]
 refine ⟨rfl, ?_⟩
 unfold oddE
 rw [hz]
theorem small11 {m : Int} (h : m.natAbs < 4294967296) : zl m ≤ 1900:=Nat.le_trans (len_le1 h) (by omega)
theorem mk_odd11 {M : Int} {z : Nat} {m e : Int} (hm : M * 2 ^ z = m) (ho : M.natAbs % 2 = 1) (hs : m.natAbs < 4294967296) (h1 : -4000 ≤ e) (h2 : e ≤ 4000) : mkM m e = M ∧ mkE m e = e + (z : Int):=by
 have h:=mk_fits (m:=m) (e:=e) (small11 hs) h1 h2
 have hm0 : m ≠ 0:=by
  have hM : M ≠ 0:=fun h0 => by rw [h0] at ho; exact absurd ho (by decide)
  rw [← hm]
  exact Int.mul_ne_zero hM (pow2_ne z)
 have hz : tz m.natAbs = z:=by rw [← hm, abs_shl]; exact tz_odd ho z
 have ho2 : oddM m = M:=by rw [← hm]; exact odd_shl ho z
 exact mk_val11 h hm0 hz ho2
theorem zl_small {m : Int} (h : m.natAbs < 4294967296) : zl m ≤ 6:=Nat.le_trans (len_le1 h) (by omega)
theorem mk_one (j : Nat) (hj : j ≤ 100) : mkM 1 (-(j : Int)) = 1 ∧ mkE 1 (-(j : Int)) = -(j : Int) ∧ mkR 1 (-(j : Int)) = 0:=by
 have h:=mk_odd11 (M:=1) (z:=0) (m:=1) (e := -(j : Int)) (by decide) (by decide) (by decide) (by omega) (by omega)
 exact ⟨h.1, by rw [h.2]; omega, mk_fits (small11 (by decide)) (by omega) (by omega)⟩
def thM (m e n f : Int) (j : Nat) : Int:=mkM (addS m e 1 (-(j : Int))) (min e (-(j : Int)))
def thE (m e n f : Int) (j : Nat) : Int:=mkE (addS m e 1 (-(j : Int))) (min e (-(j : Int)))
def thN (m e n f : Int) (j : Nat) : Int:=if dcm (thM m e n f j) (thE m e n f j) n f < 0 then thM m e n f j else n
def thF (m e n f : Int) (j : Nat) : Int:=if dcm (thM m e n f j) (thE m e n f j) n f < 0 then thE m e n f j else f
theorem thin14_ok {m e n f : Int} {j : Nat} (hj : j ≤ 100) (lm : zl m ≤ 3) (ln : zl n ≤ 3) (he : -400 ≤ e ∧ e ≤ 300) (hf : -400 ≤ f ∧ f ≤ 300) (hd : dcm m e n f ≤ 0) (hv : Dv n f) : mkR (addS m e 1 (-(j : Int))) (min e (-(j : Int))) = 0 ∧ zl (thM m e n f j) ≤ 60 ∧ (-3000 ≤ thE m e n f j ∧ thE m e n f j ≤ 3000) ∧ zl (thN m e n f j) ≤ 60 ∧ (-3000 ≤ thF m e n f j ∧ thF m e n f j ≤ 3000) ∧ dcm m e (thN m e n f j) (thF m e n f j) ≤ 0 ∧ dq (thN m e n f j) (thF m e n f j) ≤ dq n f ∧ Dv (thN m e n f j) (thF m e n f j):=by
 have z1 : zl 1 ≤ 1:=len_le1 (show 1 < 4294967296 by omega)
 have z0:=zl_addS m e 1 (-(j : Int)) 400 (by omega) (by omega)
 have r0 : mkR (addS m e 1 (-(j : Int))) (min e (-(j : Int))) = 0:=mk_fits2 (by omega) (by omega) (by omega)
 have z2:=zl_mk (addS m e 1 (-(j : Int))) (min e (-(j : Int)))
 have b1:=mkE_at r0 (k:=60) (by omega)
 have e1 : zl (thM m e n f j) ≤ 60:=by unfold thM; omega
 have e2 : -3000 ≤ thE m e n f j ∧ thE m e n f j ≤ 3000:=by unfold thE; omega
 have d1 : dq (thM m e n f j) (thE m e n f j) = dq m e + dq 1 (-(j : Int)):=(dq_mk r0).trans (dq_add _ _ _ _)
 have d2 : dq m e ≤ dq (thM m e n f j) (thE m e n f j):=by
  rw [d1]
  have h:=(Rat.add_le_add_left (c:=dq m e)).2 (Rat.le_of_lt (dq_pos (-(j : Int))))
  rwa [Rat.add_zero] at h
 have v1 : Dv (thM m e n f j) (thE m e n f j):=mk_ok r0
 refine ⟨r0, e1, e2, ?_⟩
 unfold thN thF
 split
 ·rename_i hlt
  exact ⟨e1, e2, (dcm_le _ _ _ _).2 d2, Rat.le_of_lt ((dcm_lt _ _ _ _).1 hlt), v1⟩
 ·exact ⟨by omega, by omega, hd, Rat.le_refl, hv⟩
theorem thin14_any (m e n f : Int) (j : Nat) (hj : j ≤ 100) (vx : Value) (w : World) (hx : IsI w vx m e n f) (lm : zl m ≤ 3) (ln : zl n ≤ 3) (he : -400 ≤ e ∧ e ≤ 300) (hf : -400 ≤ f ∧ f ≤ 300) (hd : dcm m e n f ≤ 0) (hv : Dv n f) :
  Calls Tryz.prog 13 #[vx, .int .i64 (j : Int)] w (RetI6 w m e (thN m e n f j) (thF m e n f j)):=by
 obtain ⟨A, c, B, d, rfl, hn1, hn2⟩:=hx.form
 have L0:=((Lq.mk0 w).n hn2).n hn1
 obtain ⟨r0, zM, bE, _⟩:=thin14_ok (j:=j) hj lm ln he hf hd hv
 obtain ⟨o1, o2, o3⟩:=mk_one j hj
 have z1 : zl 1 ≤ 6:=zl_small (by decide)
 have g1:=fun W => rzof_any 1 W (by omega) (by omega)
 have g2:=fun v W h => rmake8_any 1 (-(j : Int)) v W h (by omega)
 rw [o1, o2, o3] at g2
 have g3:=fun v u W h1 h2 => radd8_any m e 1 (-(j : Int)) v u W h1 h2 (by omega) (by omega) (by omega) (by omega)
 rw [r0] at g3
 unfold thN thF
 unfold thM thE at *
 obtain ⟨M, hM⟩:=nm9 (mkM (addS m e 1 (-(j : Int))) (min e (-(j : Int))))
 obtain ⟨E, hE⟩:=nm9 (mkE (addS m e 1 (-(j : Int))) (min e (-(j : Int))))
 rw [hM, hE] at g3 ⊢
 rw [hM] at zM
 rw [hE] at bE
 have g4:=fun v u W h1 h2 => rcmp8_any M E n f v u W h1 h2 (by omega) (by omega) (by omega) (by omega)
 obtain ⟨x, hx9⟩:=nm9 (dcm M E n f)
 rw [hx9]
 unfold dcm at hx9
 rw [hx9] at g4
 have hw : IntKind.i64.wrap (-(j : Int)) = -(j : Int):=by rw [IntKind.wrap_i64]; omega
 obtain ⟨jj, hjj⟩:=nm9 (-(j : Int))
 rw [hjj] at g2 g3
 replace hw : IntKind.i64.wrap (-(j : Int)) = jj:=hw.trans hjj
 have G1:=Hd9 g1
 have G2:=Hd9 g2
 have G3:=Hd9 g3
 have G4:=Hd9 g4
 clear g1 g2 g3 g4 hM hE hx9 r0 zM bE o1 o2 o3 z1 hx hn1 hn2 lm ln he hf hd hv hj hjj
 by_cases q : x < 0
 ·rw [if_pos q, if_pos q]
  have b1 : decide (x < 0) = true:=decide_eq_true q
  clear q
  go_enter Tryz.func13, Tryz.ntmps13
  go_wp2_with fail
  have L:=((L0.varI (w.heap.size) (by simp) (ng m) A (zl m) c e (ng n) B (zl n) d f).varI (w.heap.size + 1) (by simp) false none 0 0 0 false none 0 0 0)
  obtain ⟨c00,c01,c02,c03,c04,c05⟩:=L.b0.a6
  obtain ⟨c10,c11,c12,c13,c14,c15⟩:=L.tl.b0.a6
  (try go_wp2_with fail)
  refine (G1.out _).mono ?_
  rintro e w1 ⟨vv, rfl, iz, be⟩
  clear c00 c01 c02 c03 c04 c05 c10 c11 c12 c13 c14 c15
  replace L:=(L.step be).z iz
  clear be iz
  obtain ⟨c00,c01,c02,c03,c04,c05⟩:=L.b0.a6
  obtain ⟨c10,c11,c12,c13,c14,c15⟩:=L.tl.b0.a6
  (try go_wp2_with fail)
  refine (G2.out _ _ (L.getZ (by simp))).mono ?_
  rintro e w2 ⟨vv, rfl, id, be⟩
  clear c00 c01 c02 c03 c04 c05 c10 c11 c12 c13 c14 c15
  obtain ⟨A7, c7, rfl, _, in9⟩:=id.form
  replace L:=(L.step be).n in9
  clear be id in9
  have hl7:=L.b0.lt
  replace L:=L.varD w2.heap.size rfl (ng 1) A7 (zl 1) c7 jj
  obtain ⟨c00,c01,c02⟩:=L.b0.a3
  obtain ⟨c20,c21,c22,c23,c24,c25⟩:=L.tl.tl.b0.a6
  go_wp2_with fail
  obtain ⟨gs, hg⟩:=nm9 (w2.heap.size)
  rw [hg] at L hl7 c00 c01 c02 ⊢
  clear hg
  refine (G3.out _ _ _ (isD_n (m:=m) (e:=e) (s:=.slice A (zl m) c) (L.getN (v:=.slice A (zl m) c) (x:=(m).natAbs) (by simp))) (isD_n (m:=1) (e:=jj) (s:=.slice A7 (zl 1) c7) (L.getN (by simp)))).mono ?_
  rintro e w3 ⟨vv, rfl, id, be⟩
  clear c00 c01 c02 c20 c21 c22 c23 c24 c25
  obtain ⟨A9, c9, rfl, _, in9⟩:=id.form
  replace L:=(L.step be).n in9
  clear be id in9
  have hl9:=L.b0.lt
  replace L:=L.varD w3.heap.size rfl (ng M) A9 (zl M) c9 E
  obtain ⟨c00,c01,c02⟩:=L.b0.a3
  obtain ⟨c30,c31,c32,c33,c34,c35⟩:=L.tl.tl.tl.b0.a6
  go_wp2_with fail
  obtain ⟨gh, hg⟩:=nm9 (w3.heap.size)
  rw [hg] at L hl9 c00 c01 c02 ⊢
  clear hg
  refine (G4.out _ _ _ (isD_n (m:=M) (e:=E) (s:=.slice A9 (zl M) c9) (L.getN (by simp))) (isD_n (m:=n) (e:=f) (s:=.slice B (zl n) d) (L.getN (v:=.slice B (zl n) d) (x:=(n).natAbs) (by simp)))).mono ?_
  rintro e w4 ⟨rfl, be⟩
  clear c00 c01 c02 c30 c31 c32 c33 c34 c35
  replace L:=L.step be
  clear be
  have hgs : w.heap.size + 1 < gs:=by omega
  have hgh : gs < gh:=by omega
  obtain ⟨c00,c01,c02⟩:=L.b0.a3
  have P:=L.pick [(w.heap.size, 28, #[.bool (ng m), .slice A (zl m) c, .int .i64 e, .bool (ng n), .slice B (zl n) d, .int .i64 f]), (w.heap.size + 1, 28, #[.bool false, .slice none 0 0, .int .i64 0, .bool false, .slice none 0 0, .int .i64 0])] (by simp)
  have x0:=P.b0.c60
  have y0:=P.b0.fr 0
  have u0:=P.tl.b0.c60
  have v0:=P.tl.b0.fr 0
  have x1:=P.b0.c61
  have y1:=P.b0.fr 1
  have u1:=P.tl.b0.c61
  have v1:=P.tl.b0.fr 1
  have x2:=P.b0.c62
  have y2:=P.b0.fr 2
  have u2:=P.tl.b0.c62
  have v2:=P.tl.b0.fr 2
  have x3:=P.b0.c63
  have y3:=P.b0.fr 3
  have u3:=P.tl.b0.c63
  have v3:=P.tl.b0.fr 3
  have x4:=P.b0.c64
  have y4:=P.b0.fr 4
  have u4:=P.tl.b0.c64
  have v4:=P.tl.b0.fr 4
  have x5:=P.b0.c65
  have y5:=P.b0.fr 5
  have u5:=P.tl.b0.c65
  have v5:=P.tl.b0.fr 5
  have LS : Lq _ _ _ _ _ ((w.heap.size, 28, #[.bool (ng m), .slice A (zl m) c, .int .i64 e, .bool (ng M), .slice A9 (zl M) c9, .int .i64 E]) :: _):=((P.set (Nat.le_refl _) (by simp) 3 (.bool (ng M)) (by intro x e; cases e)).set (Nat.le_refl _) (by simp) 4 (.slice A9 (zl M) c9) (by intro x e; cases e)).set (Nat.le_refl _) (by simp) 5 (.int .i64 E) (by intro x e; cases e)
  have s0:=LS.b0.c60
  have t0:=LS.tl.b0.c60
  have p0:=LS.tl.b0.fr 0
  have s1:=LS.b0.c61
  have t1:=LS.tl.b0.c61
  have p1:=LS.tl.b0.fr 1
  have s2:=LS.b0.c62
  have t2:=LS.tl.b0.c62
  have p2:=LS.tl.b0.fr 2
  have s3:=LS.b0.c63
  have t3:=LS.tl.b0.c63
  have p3:=LS.tl.b0.fr 3
  have s4:=LS.b0.c64
  have t4:=LS.tl.b0.c64
  have p4:=LS.tl.b0.fr 4
  have s5:=LS.b0.c65
  have t5:=LS.tl.b0.c65
  have p5:=LS.tl.b0.fr 5
  go_wp2_with fail
  clear s0 t0 p0 x0 y0 u0 v0 s1 t1 p1 x1 y1 u1 v1 s2 t2 p2 x2 y2 u2 v2 s3 t3 p3 x3 y3 u3 v3 s4 t4 p4 x4 y4 u4 v4 s5 t5 p5 x5 y5 u5 v5
  replace L:=LS.swap
  clear LS P
  clear c00 c01 c02
  have LP:=L.putI (by omega) (by first | (simp; done) | (simp; omega)) (ng m) A (zl m) c e (ng M) A9 (zl M) c9 E
  obtain ⟨k0,k1,k2,k3,k4,k5⟩:=LP.b0.a6
  unfold put6 at k0 k1 k2 k3 k4 k5
  exact bodyPost_ret (v:=.agg #[.bool (ng m), .slice A (zl m) c, .int .i64 e, .bool (ng M), .slice A9 (zl M) c9, .int .i64 E]) (by simp [results, Tryz.results13, go_sem, k0, k1, k2, k3, k4, k5]) rfl ⟨_, rfl, isI_n (LP.getN (by simp)) (LP.getN (by simp)), LP.below⟩
 ·rw [if_neg q, if_neg q]
  have b1 : decide (x < 0) = false:=decide_eq_false q
  clear q
  go_enter Tryz.func13, Tryz.ntmps13
  go_wp2_with fail
  have L:=((L0.varI (w.heap.size) (by simp) (ng m) A (zl m) c e (ng n) B (zl n) d f).varI (w.heap.size + 1) (by simp) false none 0 0 0 false none 0 0 0)
  obtain ⟨c00,c01,c02,c03,c04,c05⟩:=L.b0.a6
  obtain ⟨c10,c11,c12,c13,c14,c15⟩:=L.tl.b0.a6
  (try go_wp2_with fail)
  refine (G1.out _).mono ?_
  rintro e w1 ⟨vv, rfl, iz, be⟩
  clear c00 c01 c02 c03 c04 c05 c10 c11 c12 c13 c14 c15
  replace L:=(L.step be).z iz
  clear be iz
  obtain ⟨c00,c01,c02,c03,c04,c05⟩:=L.b0.a6
  obtain ⟨c10,c11,c12,c13,c14,c15⟩:=L.tl.b0.a6
  (try go_wp2_with fail)
  refine (G2.out _ _ (L.getZ (by simp))).mono ?_
  rintro e w2 ⟨vv, rfl, id, be⟩
  clear c00 c01 c02 c03 c04 c05 c10 c11 c12 c13 c14 c15
  obtain ⟨A7, c7, rfl, _, in9⟩:=id.form
  replace L:=(L.step be).n in9
  clear be id in9
  have hl7:=L.b0.lt
  replace L:=L.varD w2.heap.size rfl (ng 1) A7 (zl 1) c7 jj
  obtain ⟨c00,c01,c02⟩:=L.b0.a3
  obtain ⟨c20,c21,c22,c23,c24,c25⟩:=L.tl.tl.b0.a6
  go_wp2_with fail
  obtain ⟨gs, hg⟩:=nm9 (w2.heap.size)
  rw [hg] at L hl7 c00 c01 c02 ⊢
  clear hg
  refine (G3.out _ _ _ (isD_n (m:=m) (e:=e) (s:=.slice A (zl m) c) (L.getN (v:=.slice A (zl m) c) (x:=(m).natAbs) (by simp))) (isD_n (m:=1) (e:=jj) (s:=.slice A7 (zl 1) c7) (L.getN (by simp)))).mono ?_
  rintro e w3 ⟨vv, rfl, id, be⟩
  clear c00 c01 c02 c20 c21 c22 c23 c24 c25
  obtain ⟨A9, c9, rfl, _, in9⟩:=id.form
  replace L:=(L.step be).n in9
  clear be id in9
  have hl9:=L.b0.lt
  replace L:=L.varD w3.heap.size rfl (ng M) A9 (zl M) c9 E
  obtain ⟨c00,c01,c02⟩:=L.b0.a3
  obtain ⟨c30,c31,c32,c33,c34,c35⟩:=L.tl.tl.tl.b0.a6
  go_wp2_with fail
  obtain ⟨gh, hg⟩:=nm9 (w3.heap.size)
  rw [hg] at L hl9 c00 c01 c02 ⊢
  clear hg
  refine (G4.out _ _ _ (isD_n (m:=M) (e:=E) (s:=.slice A9 (zl M) c9) (L.getN (by simp))) (isD_n (m:=n) (e:=f) (s:=.slice B (zl n) d) (L.getN (v:=.slice B (zl n) d) (x:=(n).natAbs) (by simp)))).mono ?_
  rintro e w4 ⟨rfl, be⟩
  clear c00 c01 c02 c30 c31 c32 c33 c34 c35
  replace L:=L.step be
  clear be
  have hgs : w.heap.size + 1 < gs:=by omega
  have hgh : gs < gh:=by omega
  replace L:=L.pick [(w.heap.size + 1, 28, #[.bool false, .slice none 0 0, .int .i64 0, .bool false, .slice none 0 0, .int .i64 0]), (w.heap.size, 28, #[.bool (ng m), .slice A (zl m) c, .int .i64 e, .bool (ng n), .slice B (zl n) d, .int .i64 f])] (by simp)
  obtain ⟨c00,c01,c02,c03,c04,c05⟩:=L.b0.a6
  obtain ⟨f00,f01,f02,f03,f04,f05⟩:=L.b0.f6
  obtain ⟨c10,c11,c12,c13,c14,c15⟩:=L.tl.b0.a6
  go_wp2_with fail
  have LP:=L.putI (by omega) (by first | (simp; done) | (simp; omega)) (ng m) A (zl m) c e (ng n) B (zl n) d f
  obtain ⟨k0,k1,k2,k3,k4,k5⟩:=LP.b0.a6
  unfold put6 at k0 k1 k2 k3 k4 k5
  exact bodyPost_ret (v:=.agg #[.bool (ng m), .slice A (zl m) c, .int .i64 e, .bool (ng n), .slice B (zl n) d, .int .i64 f]) (by simp [results, Tryz.results13, go_sem, k0, k1, k2, k3, k4, k5]) rfl ⟨_, rfl, isI_n (LP.getN (by simp)) (LP.getN (by simp)), LP.below⟩
theorem small14 {m e n f : Int} (lm : zl m ≤ 60) (ln : zl n ≤ 60) (he : -8000 ≤ e ∧ e ≤ 3000) (hf : -8000 ≤ f ∧ f ≤ 3000) (hle : dcm m e n f ≤ 0) (tm : topZ m e ≤ 2048) (tn : topZ n f ≤ 2048) : smallB m e n f = true:=by
 have p8 : permB 8192 = true:=by decide
 unfold smallB onB
 rw [p8, decide_eq_true hle, decide_eq_true tm, decide_eq_true tn, decide_eq_true (show -8192 ≤ e by omega), decide_eq_true (show -8192 ≤ f by omega)]
 simp


theorem top_ub {m e : Int} {z : Nat} (hz : zl m ≤ z) (he : e ≤ 1000) (hb : 32 * (z : Int) + 1000 ≤ 2048) : topZ m e ≤ 2048:=by
 have h:=blen_le_len m.natAbs
 have e1 : zl m = len m.natAbs:=rfl
 unfold topZ
 split <;> omega
theorem ArgL.sp {m e n f : Int} (h : ArgL m e n f) : (spK m e).natAbs ≤ 3000 ∧ (spK n f).natAbs ≤ 3000:=by
 obtain ⟨_, _, _, h4, h5, h6, h7, h8⟩:=h
 obtain ⟨_, _, a, b⟩:=sp_rng (m:=m) (e:=e) h5
 obtain ⟨_, _, c, d⟩:=sp_rng (m:=n) (e:=f) h6
 omega
structure ArgX (B m e n f : Int) : Prop where
 vm : Dv m e
 vn : Dv n f
 le : dq m e ≤ dq n f
 zm : zl m ≤ 60
 zn : zl n ≤ 60
 em : -3000 ≤ e ∧ e ≤ 3000
 en : -3000 ≤ f ∧ f ≤ 3000
 lo : -dq 1 B ≤ dq m e
 hi : dq n f ≤ dq 1 B
theorem ArgX.all {B m e n f : Int} (h : ArgX B m e n f) (hB : B ≤ 8) : smallB m e n f = true ∧ topZ m e ≤ 11 ∧ topZ n f ≤ 11 ∧ -256 ≤ dq m e ∧ dq n f ≤ 256:=by
 have v8 : dq 1 8 = 256:=by decide +kernel
 have v11 : dq 1 11 = 2048:=by decide +kernel
 have hb:=dq_anti hB
 rw [v8] at hb
 have l1 : -256 ≤ dq m e:=Rat.le_trans (Rat.neg_le_neg hb) h.lo
 have l2 : dq n f ≤ 256:=Rat.le_trans h.hi hb
 have l3:=h.le
 have tm : topZ m e ≤ 11:=by
  refine (top_iff (by omega)).2 ?_
  rw [v11]
  generalize dq m e = p at *
  generalize dq n f = q at *
  clear h hb
  constructor <;> grind
 have tn : topZ n f ≤ 11:=by
  refine (top_iff (by omega)).2 ?_
  rw [v11]
  generalize dq m e = p at *
  generalize dq n f = q at *
  clear h hb
  constructor <;> grind
 have em:=h.em
 have en:=h.en
 exact ⟨small14 h.zm h.zn (by omega) (by omega) ((dcm_le _ _ _ _).2 h.le) (by omega) (by omega), tm, tn, l1, l2⟩
theorem ArgL.hi256 {m e n f : Int} (h : ArgL m e n f) : dq n f ≤ dq 1 256:=by
 obtain ⟨_, b⟩:=top_bd n f
 refine Rat.le_trans b (dq_anti ?_)
 have h1:=blen_le_len n.natAbs
 have e1 : zl n = len n.natAbs:=rfl
 have h2:=h.zn
 have h3:=h.en
 unfold topZ
 split <;> omega

end Go.Proofs.YtmgbjldogggpcaaGreatDoor
