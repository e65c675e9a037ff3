/- The walk of ArctangentOdd: whatever the input, the law returns true and turns nothing that was there. -/
import Derived.Test.YtmgbjldogggpcaaGreatDoorJO3
import Derived.Test.YtmgbjldogggpcaaGreatDoorBaseWO
import Derived.Deep.RegionHeld3
import Derived.Deep.DrawnRows
import Derived.Deep.Cut
import Derived.Deep.CutRange
namespace Go.Proofs.YtmgbjldogggpcaaGreatDoor
set_option maxHeartbeats 64000000
open Go.RowKit
set_option linter.unusedVariables false
set_option linter.unusedSimpArgs false
set_option maxRecDepth 100000
attribute [local go_sem ↓] Go.wp_at_zero Go.wp_at_succ

theorem walk_ArctangentOdd (b0 : Bool) (a0 : Option Addr) (len0 cap0 : Nat) (z0 : List Nat) (f0 : Int) (bb0 : Bool) (aa0 : Option Addr) (ll0 cc0 : Nat) (zz0 : List Nat) (ff0 : Int) (a1 : Int) (w : World) (h0 : Sl w a0 len0 cap0 z0 ∧ -9223372036854775808 ≤ f0 ∧ f0 ≤ 9223372036854775807) (k0 : Sl w aa0 ll0 cc0 zz0 ∧ -9223372036854775808 ≤ ff0 ∧ ff0 ≤ 9223372036854775807) (h1 : -9223372036854775808 ≤ a1 ∧ a1 ≤ 9223372036854775807) (hT : Tab w) :
  Calls Tryz.prog 7 #[.agg #[.bool b0, .slice a0 len0 cap0, .int .i64 f0, .bool bb0, .slice aa0 ll0 cc0, .int .i64 ff0], .int .i64 a1] w (fun e w' => e = .returned (.bool true) ∧ Below w.heap.size w w'):=by
 have HT:=Hd9 (fun W (hW : Below w.heap.size w W) => hT.mono hW)
 clear hT
 go_enter Tryz.func7, Tryz.ntmps7
 go_wp2_with fail
 have L:=((Lq.mk0 w).varI (w.heap.size) (by simp) b0 a0 len0 cap0 f0 bb0 aa0 ll0 cc0 ff0)
 (try go_wp2_with fail)
 refine (awake16_any _ (HT.out _ L.below)).mono ?_
 rintro e9 w1 ⟨rfl, be⟩
 replace L:=L.step be
 clear be
 obtain ⟨c00,c01,c02,c03,c04,c05⟩:=L.b0.a6
 (try go_wp2_with fail)
 refine (millI_any b0 bb0 z0 zz0 2 50 a0 aa0 len0 cap0 ll0 cc0 f0 ff0 _ (h0.1.mono L.below) (k0.1.mono L.below) (by omega) (by omega) h0.2.1 h0.2.2 k0.2.1 k0.2.2).mono ?_
 rintro e9 w2 ⟨vx, okx, m, e, n, f, rfl, ii, zz9, be1, bf1, hdv, hcm, be⟩
 clear c00 c01 c02 c03 c04 c05
 obtain ⟨A, c, B, d, rfl, ia, ib⟩:=ii.form
 replace L:=((L.step be).n ib).n ia
 clear be ii ia ib
 have hl9:=L.b0.lt
 have Hx:=Hd9 (fun h : okx = true => (show ArgA m e n f from ⟨(hdv h).1, (hdv h).2, hcm, zz9.1, zz9.2, by omega, by omega⟩))
 clear hdv hcm zz9 be1 bf1
 replace L:=L.varI w2.heap.size rfl (ng m) A (zl m) c e (ng n) B (zl n) d f
 cases okx
 ·go_wp2_with fail
  go_ret
  exact ⟨rfl, L.below⟩
 have HX:=Hd9 (Hx.out rfl)
 clear Hx
 obtain ⟨r, hr⟩ : ∃ r : Nat, a1 % 80 = (r : Int):=⟨(a1 % 80).toNat, by omega⟩
 have o1:=fun W => mod_any a1 80 W (by omega) (by omega) h1.1 h1.2
 rw [hr] at o1
 obtain ⟨k, hk⟩ : ∃ k : Nat, 3 + r = k:=⟨_, rfl⟩
 obtain ⟨k2, hk2⟩ : ∃ k2 : Nat, k + 100 = k2:=⟨_, rfl⟩
 have wk : IntKind.i64.wrap (3 + (r : Int)) = (k : Int):=by rw [IntKind.wrap_i64]; omega
 have wk2 : IntKind.i64.wrap ((k : Int) + 100) = (k2 : Int):=by rw [IntKind.wrap_i64]; omega
 have HK:=Hd9 (show 3 ≤ k ∧ k ≤ 82 ∧ k2 = k + 100 from ⟨by omega, by omega, by omega⟩)
 have MO1:=Hd9 o1
 have hX:=HX.out
 have hN:=hX.neg
 have z1:=hX.zm
 have z2:=hX.zn
 have b1:=hX.em
 have b2:=hX.en
 have z3:=hN.zm
 have z4:=hN.zn
 have g1:=fun v W h (hW : Below w.heap.size w W) => aneg_any m e n f (k2 : Int) v W h (by omega) (by omega) (by omega) (by omega) hX.le (by omega) (by omega) (HT.out W hW)
 have hng:=neg_any (k:=k2) hX.vm hX.vn (by omega) (by omega) (by omega) (by omega) (by omega) (by omega) (by omega) hX.dle
 simp only [hng] at g1
 have g2:=fun v W h (hW : Below w.heap.size w W) => tatan_yes m e n f k v W h (by omega) (by omega) (by omega) (by omega) hX.vm hX.vn hX.small (by omega) (HT.out W hW)
 have g3:=fun v W h (hW : Below w.heap.size w W) => tatan_yes (-n) f (-m) e k v W h (by omega) (by omega) (by omega) (by omega) hN.vm hN.vn hN.small (by omega) (HT.out W hW)
 have HE:=Hd9 (And.intro (dq_neg n f) (dq_neg m e))
 obtain ⟨nn, hnn⟩:=nm9 (-n)
 obtain ⟨nm, hnm⟩:=nm9 (-m)
 rw [hnn, hnm] at g1 g3 HE
 have G1:=Hd9 g1
 have G2:=Hd9 g2
 have G3:=Hd9 g3
 have g8:=fun W => of16_any (-2) 2 W (by omega) (by omega)
 have t2 : AbP 2 1:=by unfold AbP; decide
 obtain ⟨u1, u2, u3, u4, u5⟩:=nx (x:=0) t2 (by omega) (by omega)
 obtain ⟨v1, v2, v3, v4, v5⟩:=nx (x:=0) t2.neg (by omega) (by omega)
 have e2 : dq 2 0 = 2:=by decide +kernel
 have e3 : dq (-2) 0 = -2:=by decide +kernel
 rw [e2] at u5
 rw [e3] at v5
 obtain ⟨MA, hMA⟩:=nm9 (mkM (-2) 0)
 obtain ⟨EA, hEA⟩:=nm9 (mkE (-2) 0)
 obtain ⟨MB, hMB⟩:=nm9 (mkM 2 0)
 obtain ⟨EB, hEB⟩:=nm9 (mkE 2 0)
 rw [hMA, hEA, hMB, hEB] at g8
 rw [hMA] at v2 v5
 rw [hEA] at v3 v5
 rw [hMB] at u2 u5
 rw [hEB] at u3 u5
 have H2:=Hd9 (And.intro u2 (And.intro u3 (And.intro u5 (And.intro v2 (And.intro v3 v5)))))
 have G8:=Hd9 g8
 clear g8 t2 u1 u2 u3 u4 u5 v1 v2 v3 v4 v5 e2 e3 hMA hEA hMB hEB o1 hr hk hk2 hX hN z1 z2 z3 z4 b1 b2 g1 g2 g3 hng hnn hnm
 obtain ⟨c00,c01,c02,c03,c04,c05⟩:=L.b0.a6
 obtain ⟨c10,c11,c12,c13,c14,c15⟩:=L.tl.b0.a6
 go_wp2_with fail
 clear c00 c01 c02 c03 c04 c05 c10 c11 c12 c13 c14 c15
 obtain ⟨gx, hgx⟩:=nm9 (w2.heap.size)
 rw [hgx] at L hl9 ⊢
 clear hgx
 have hl_gx:=hl9
 clear hl9
 refine (MO1.out _).mono ?_
 rintro e9 w' ⟨rfl, rfl⟩
 obtain ⟨c00,c01,c02,c03,c04,c05⟩:=L.b0.a6
 (try go_wp2_with fail)
 refine (G1.out _ _ (isI_n (m:=m) (e:=e) (n:=n) (f:=f) (s:=.slice A (zl m) c) (t:=.slice B (zl n) d) (L.getN (by simp)) (L.getN (by simp))) L.below).mono ?_
 rintro e w3 ⟨v9, rfl, ii, be⟩
 clear c00 c01 c02 c03 c04 c05
 obtain ⟨A2, c2, B2, d2, rfl, ia, ib⟩:=ii.form
 replace L:=((L.step be).n ib).n ia
 clear be ii ia ib
 have hl9:=L.b0.lt
 replace L:=L.varI w3.heap.size rfl (ng nn) A2 (zl nn) c2 f (ng nm) B2 (zl nm) d2 e
 obtain ⟨c00,c01,c02,c03,c04,c05⟩:=L.b0.a6
 obtain ⟨c10,c11,c12,c13,c14,c15⟩:=L.tl.b0.a6
 (try go_wp2_with fail)
 clear c00 c01 c02 c03 c04 c05 c10 c11 c12 c13 c14 c15
 obtain ⟨gn, hgn⟩:=nm9 (w3.heap.size)
 rw [hgn] at L hl9 ⊢
 clear hgn
 have hl_gn:=hl9
 clear hl9
 refine (G2.out _ _ (isI_n (m:=m) (e:=e) (n:=n) (f:=f) (s:=.slice A (zl m) c) (t:=.slice B (zl n) d) (L.getN (by simp)) (L.getN (by simp))) L.below).mono ?_
 intro e9 w4 hr9
 obtain ⟨ap, bp, hap, vv, rfl, ii, be⟩:=hr9
 obtain ⟨A3, c3, B3, d3, rfl, ia, ib⟩:=ii.form
 replace L:=((L.step be).n ib).n ia
 clear be ii ia ib
 have hl9:=L.b0.lt
 obtain ⟨Mp, hMp⟩:=nm9 (mkM ap (-(k : Int)))
 obtain ⟨Ep, hEp⟩:=nm9 (mkE ap (-(k : Int)))
 obtain ⟨Np, hNp⟩:=nm9 (mkM bp (-(k : Int)))
 obtain ⟨Fp, hFp⟩:=nm9 (mkE bp (-(k : Int)))
 rw [hMp, hNp] at L ⊢
 rw [hEp, hFp]
 have Hap:=Hd9 (And.intro hap (And.intro (And.intro hMp hEp) (And.intro hNp hFp)))
 clear hap hMp hEp hNp hFp
 replace L:=L.varI w4.heap.size rfl (ng Mp) A3 (zl Mp) c3 Ep (ng Np) B3 (zl Np) d3 Fp
 obtain ⟨c00,c01,c02,c03,c04,c05⟩:=L.b0.a6
 obtain ⟨c10,c11,c12,c13,c14,c15⟩:=L.tl.b0.a6
 go_wp2_with fail
 clear c00 c01 c02 c03 c04 c05 c10 c11 c12 c13 c14 c15
 obtain ⟨gp, hgp⟩:=nm9 (w4.heap.size)
 rw [hgp] at L hl9 ⊢
 clear hgp
 have hl_gp:=hl9
 clear hl9
 refine (G3.out _ _ (isI_n (m:=nn) (e:=f) (n:=nm) (f:=e) (s:=.slice A2 (zl nn) c2) (t:=.slice B2 (zl nm) d2) (L.getN (by simp)) (L.getN (by simp))) L.below).mono ?_
 intro e9 w5 hr9
 obtain ⟨aq, bq, haq, vv, rfl, ii, be⟩:=hr9
 obtain ⟨A4, c4, B4, d4, rfl, ia, ib⟩:=ii.form
 replace L:=((L.step be).n ib).n ia
 clear be ii ia ib
 have hl9:=L.b0.lt
 obtain ⟨Mq, hMq⟩:=nm9 (mkM aq (-(k : Int)))
 obtain ⟨Eq, hEq⟩:=nm9 (mkE aq (-(k : Int)))
 obtain ⟨Nq, hNq⟩:=nm9 (mkM bq (-(k : Int)))
 obtain ⟨Fq, hFq⟩:=nm9 (mkE bq (-(k : Int)))
 rw [hMq, hNq] at L ⊢
 rw [hEq, hFq]
 have Haq:=Hd9 (And.intro haq (And.intro (And.intro hMq hEq) (And.intro hNq hFq)))
 clear haq hMq hEq hNq hFq
 replace L:=L.varI w5.heap.size rfl (ng Mq) A4 (zl Mq) c4 Eq (ng Nq) B4 (zl Nq) d4 Fq
 obtain ⟨c00,c01,c02,c03,c04,c05⟩:=L.b0.a6
 go_wp2_with fail
 clear c00 c01 c02 c03 c04 c05
 obtain ⟨gq, hgq⟩:=nm9 (w5.heap.size)
 rw [hgq] at L hl9 ⊢
 clear hgq
 have hl_gq:=hl9
 clear hl9
 obtain ⟨k3, k82, hk2⟩:=HK.out
 obtain ⟨hen, hem⟩:=HE.out
 have hX:=HX.out
 obtain ⟨⟨eap, fap, zaap, zbap⟩, ⟨hMp, hEp⟩, hNp, hFp⟩:=Hap.out
 obtain ⟨pap1, pap2, pap3, pap4⟩:=gr16 (k:=k) zaap (by omega) (by omega)
 obtain ⟨qap1, qap2, qap3, qap4⟩:=gr16 (k:=k) zbap (by omega) (by omega)
 rw [hMp] at pap1
 rw [hEp] at pap2
 rw [hMp, hEp] at pap3 pap4
 rw [hNp] at qap1
 rw [hFp] at qap2
 rw [hNp, hFp] at qap3 qap4
 clear hMp hEp hNp hFp
 obtain ⟨⟨eaq, faq, zaaq, zbaq⟩, ⟨hMq, hEq⟩, hNq, hFq⟩:=Haq.out
 obtain ⟨paq1, paq2, paq3, paq4⟩:=gr16 (k:=k) zaaq (by omega) (by omega)
 obtain ⟨qaq1, qaq2, qaq3, qaq4⟩:=gr16 (k:=k) zbaq (by omega) (by omega)
 rw [hMq] at paq1
 rw [hEq] at paq2
 rw [hMq, hEq] at paq3 paq4
 rw [hNq] at qaq1
 rw [hFq] at qaq2
 rw [hNq, hFq] at qaq3 qaq4
 clear hMq hEq hNq hFq
 rw [hen] at eaq
 rw [hem] at faq
 have hqle : dq Mq Eq ≤ dq Nq Fq:=by
  rw [paq4, qaq4]
  exact ea_eb eaq faq (by have:=hX.dle; grind)
 have g4:=fun v W h (hW : Below w.heap.size w W) => aneg_any Mq Eq Nq Fq (k : Int) v W h (by omega) (by omega) (by omega) (by omega) ((dcm_le _ _ _ _).2 hqle) (by omega) (by omega) (HT.out W hW)
 have hng:=neg_any (k:=k) paq3 qaq3 (by omega) (by omega) (by omega) (by omega) (by omega) (by omega) (by omega) hqle
 simp only [hng] at g4
 have zn1:=zl_neg Nq
 have zn2:=zl_neg Mq
 have g5:=fun v u W h k9 => r10cmp_any Mp Ep Np Fp (-Nq) Fq (-Mq) Eq v u W h k9 (by omega) (by omega) (by omega) (by omega) (by omega) (by omega) (by omega) (by omega)
 have hmeet : icm Mp Ep Np Fp (-Nq) Fq (-Mq) Eq = 0:=by
  refine icm_meet16 ?_ ?_
  ·rw [dq_neg, qaq4, qap4]
   have h9:=at_le faq.2.neg fap.2 (by rw [Rat.neg_neg]; exact hX.dle)
   exact h9
  ·rw [dq_neg, paq4, pap4]
   have h9:=eaq.1.neg
   rw [Rat.neg_neg] at h9
   exact at_le eap.1 h9 hX.dle
 rw [hmeet] at g5
 obtain ⟨u2, u3, u5, v2, v3, v5⟩:=H2.out
 have g6:=fun v u W h k9 => r10within_any Mp Ep Np Fp MA EA MB EB v u W h k9 (by omega) (by omega) (by omega) (by omega) (by omega) (by omega) (by omega) (by omega)
 rw [(inB_iff Mp Ep Np Fp MA EA MB EB).2 ⟨by rw [v5, pap4]; exact eap.ge2 k3, by rw [u5, qap4]; exact fap.le2 k3⟩] at g6
 obtain ⟨nN, hnN⟩:=nm9 (-Nq)
 obtain ⟨nM, hnM⟩:=nm9 (-Mq)
 rw [hnN, hnM] at g4 g5
 have G4:=Hd9 g4
 have G5:=Hd9 g5
 have G6:=Hd9 g6
 clear g4 g5 g6 hng hmeet hqle zn1 zn2 u2 u3 u5 v2 v3 v5 k3 k82 hk2 hen hem hX hnN hnM eap fap zaap zbap pap1 qap1 pap2 qap2 pap3 qap3 pap4 qap4 eaq faq zaaq zbaq paq1 qaq1 paq2 qaq2 paq3 qaq3 paq4 qaq4
 refine (G4.out _ _ (isI_n (m:=Mq) (e:=Eq) (n:=Nq) (f:=Fq) (s:=.slice A4 (zl Mq) c4) (t:=.slice B4 (zl Nq) d4) (L.getN (by simp)) (L.getN (by simp))) L.below).mono ?_
 rintro e w6 ⟨v9, rfl, ii, be⟩
 obtain ⟨A5, c5, B5, d5, rfl, ia, ib⟩:=ii.form
 replace L:=((L.step be).n ib).n ia
 clear be ii ia ib
 have hl9:=L.b0.lt
 replace L:=L.varI w6.heap.size rfl (ng nN) A5 (zl nN) c5 Fq (ng nM) B5 (zl nM) d5 Eq
 obtain ⟨c00,c01,c02,c03,c04,c05⟩:=L.b0.a6
 (try go_wp2_with fail)
 clear c00 c01 c02 c03 c04 c05
 obtain ⟨gm, hgm⟩:=nm9 (w6.heap.size)
 rw [hgm] at L hl9 ⊢
 clear hgm
 have hl_gm:=hl9
 clear hl9
 replace L:=L.drew
 obtain ⟨c00,c01,c02,c03,c04,c05⟩:=L.b0.a6
 obtain ⟨c20,c21,c22,c23,c24,c25⟩:=L.tl.tl.b0.a6
 go_region_held3 (fun w' => w'.cell? ⟨gm, 0, none⟩ = some (.bool (ng nN)) ∧ w'.cell? ⟨gm, 1, none⟩ = some (.slice A5 (zl nN) c5) ∧ w'.cell? ⟨gm, 2, none⟩ = some (.int .i64 Fq) ∧ w'.cell? ⟨gm, 3, none⟩ = some (.bool (ng nM)) ∧ w'.cell? ⟨gm, 4, none⟩ = some (.slice B5 (zl nM) d5) ∧ w'.cell? ⟨gm, 5, none⟩ = some (.int .i64 Eq) ∧ w'.cell? ⟨gp, 0, none⟩ = some (.bool (ng Mp)) ∧ w'.cell? ⟨gp, 1, none⟩ = some (.slice A3 (zl Mp) c3) ∧ w'.cell? ⟨gp, 2, none⟩ = some (.int .i64 Ep) ∧ w'.cell? ⟨gp, 3, none⟩ = some (.bool (ng Np)) ∧ w'.cell? ⟨gp, 4, none⟩ = some (.slice B3 (zl Np) d3) ∧ w'.cell? ⟨gp, 5, none⟩ = some (.int .i64 Fp)) (first | (with_reducible exact ⟨L.b0.c60, L.b0.c61, L.b0.c62, L.b0.c63, L.b0.c64, L.b0.c65, L.tl.tl.b0.c60, L.tl.tl.b0.c61, L.tl.tl.b0.c62, L.tl.tl.b0.c63, L.tl.tl.b0.c64, L.tl.tl.b0.c65⟩) | exact ⟨L.b0.c60, L.b0.c61, L.b0.c62, L.b0.c63, L.b0.c64, L.b0.c65, L.tl.tl.b0.c60, L.tl.tl.b0.c61, L.tl.tl.b0.c62, L.tl.tl.b0.c63, L.tl.tl.b0.c64, L.tl.tl.b0.c65⟩) (first | (go_at_call 25; (with_reducible refine (G5.out _ _ _ ?_ ?_).mono ?_); (· (refine isI_n (L.getN ?_) (L.getN ?_); all_goals (repeat (first | (with_reducible exact mS) | apply mT)))); (· (refine isI_n (L.getN ?_) (L.getN ?_); all_goals (repeat (first | (with_reducible exact mS) | apply mT)))); rintro e wh ⟨rfl, be⟩; replace L:=L.step be; clear be) | (go_at_call 27; (with_reducible refine (G8.out _).mono ?_); rintro e wh ⟨vh, rfl, ii, be⟩; obtain ⟨A6, c6, B6, d6, rfl, ia, ib⟩:=ii.form; replace L:=((L.step be).n ib).n ia; clear be ii ia ib) | (go_at_call 26; (with_reducible refine (G6.out _ _ _ ?_ ?_).mono ?_); (· (refine isI_n (L.getN ?_) (L.getN ?_); all_goals (repeat (first | (with_reducible exact mS) | apply mT)))); (· (refine isI_n (L.getN ?_) (L.getN ?_); all_goals (repeat (first | (with_reducible exact mS) | apply mT)))); rintro e wh ⟨rfl, be⟩; replace L:=L.step be; clear be))
 (try go_wp2_with fail)
 (try go_ret)
 exact ⟨rfl, L.below⟩

end Go.Proofs.YtmgbjldogggpcaaGreatDoor
