/- The walk of ArctangentRises: whatever the input, the law returns true and turns nothing that was there. -/
import Derived.Test.YtmgbjldogggpcaaGreatDoorJO3
import Derived.Test.YtmgbjldogggpcaaGreatDoorBaseWO
import Derived.Deep.RegionHeld3
import Derived.Deep.DrawnRows
import Derived.Deep.Cut
import Derived.Deep.CutRange
namespace Go.Proofs.YtmgbjldogggpcaaGreatDoor
set_option maxHeartbeats 64000000
open Go.RowKit
set_option linter.unusedVariables false
set_option linter.unusedSimpArgs false
set_option maxRecDepth 100000
attribute [local go_sem ↓] Go.wp_at_zero Go.wp_at_succ

theorem walk_ArctangentRises (b0 : Bool) (a0 : Option Addr) (len0 cap0 : Nat) (z0 : List Nat) (f0 : Int) (bb0 : Bool) (aa0 : Option Addr) (ll0 cc0 : Nat) (zz0 : List Nat) (ff0 : Int) (b1 : Bool) (a1 : Option Addr) (len1 cap1 : Nat) (z1 : List Nat) (f1 : Int) (bb1 : Bool) (aa1 : Option Addr) (ll1 cc1 : Nat) (zz1 : List Nat) (ff1 : Int) (a2 : Int) (w : World) (h0 : Sl w a0 len0 cap0 z0 ∧ -9223372036854775808 ≤ f0 ∧ f0 ≤ 9223372036854775807) (k0 : Sl w aa0 ll0 cc0 zz0 ∧ -9223372036854775808 ≤ ff0 ∧ ff0 ≤ 9223372036854775807) (h1 : Sl w a1 len1 cap1 z1 ∧ -9223372036854775808 ≤ f1 ∧ f1 ≤ 9223372036854775807) (k1 : Sl w aa1 ll1 cc1 zz1 ∧ -9223372036854775808 ≤ ff1 ∧ ff1 ≤ 9223372036854775807) (h2 : -9223372036854775808 ≤ a2 ∧ a2 ≤ 9223372036854775807) (hT : Tab w) :
  Calls Tryz.prog 10 #[.agg #[.bool b0, .slice a0 len0 cap0, .int .i64 f0, .bool bb0, .slice aa0 ll0 cc0, .int .i64 ff0], .agg #[.bool b1, .slice a1 len1 cap1, .int .i64 f1, .bool bb1, .slice aa1 ll1 cc1, .int .i64 ff1], .int .i64 a2] w (fun e w' => e = .returned (.bool true) ∧ Below w.heap.size w w'):=by
 have HT:=Hd9 (fun W (hW : Below w.heap.size w W) => hT.mono hW)
 clear hT
 go_enter Tryz.func10, Tryz.ntmps10
 go_wp2_with fail
 have L:=(((Lq.mk0 w).varI (w.heap.size) (by simp) b0 a0 len0 cap0 f0 bb0 aa0 ll0 cc0 ff0).varI (w.heap.size + 1) (by simp) b1 a1 len1 cap1 f1 bb1 aa1 ll1 cc1 ff1)
 (try go_wp2_with fail)
 refine (awake16_any _ (HT.out _ L.below)).mono ?_
 rintro e9 w1 ⟨rfl, be⟩
 replace L:=L.step be
 clear be
 obtain ⟨c00,c01,c02,c03,c04,c05⟩:=L.b0.a6
 obtain ⟨c10,c11,c12,c13,c14,c15⟩:=L.tl.b0.a6
 (try go_wp2_with fail)
 refine (millI_any b0 bb0 z0 zz0 2 50 a0 aa0 len0 cap0 ll0 cc0 f0 ff0 _ (h0.1.mono L.below) (k0.1.mono L.below) (by omega) (by omega) h0.2.1 h0.2.2 k0.2.1 k0.2.2).mono ?_
 rintro e9 w2 ⟨vx, okx, m, e, n, f, rfl, ii, zz9, be1, bf1, hdv, hcm, be⟩
 clear c00 c01 c02 c03 c04 c05 c10 c11 c12 c13 c14 c15
 obtain ⟨A, c, B, d, rfl, ia, ib⟩:=ii.form
 replace L:=((L.step be).n ib).n ia
 clear be ii ia ib
 have hl9:=L.b0.lt
 have Hx:=Hd9 (fun h : okx = true => (show ArgA m e n f from ⟨(hdv h).1, (hdv h).2, hcm, zz9.1, zz9.2, by omega, by omega⟩))
 clear hdv hcm zz9 be1 bf1
 replace L:=L.varI w2.heap.size rfl (ng m) A (zl m) c e (ng n) B (zl n) d f
 obtain ⟨c10,c11,c12,c13,c14,c15⟩:=L.tl.b0.a6
 go_wp2_with fail
 clear c10 c11 c12 c13 c14 c15
 obtain ⟨gx, hgx⟩:=nm9 (w2.heap.size)
 rw [hgx] at L hl9 ⊢
 clear hgx
 have hl_gx:=hl9
 clear hl9
 refine (millI_any b1 bb1 z1 zz1 2 50 a1 aa1 len1 cap1 ll1 cc1 f1 ff1 _ (h1.1.mono L.below) (k1.1.mono L.below) (by omega) (by omega) h1.2.1 h1.2.2 k1.2.1 k1.2.2).mono ?_
 rintro e9 w3 ⟨vx, oky, m2, e2, n2, f2, rfl, ii, zz9, be1, bf1, hdv, hcm, be⟩
 obtain ⟨A2, c2, B2, d2, rfl, ia, ib⟩:=ii.form
 replace L:=((L.step be).n ib).n ia
 clear be ii ia ib
 have hl9:=L.b0.lt
 have Hy:=Hd9 (fun h : oky = true => (show ArgA m2 e2 n2 f2 from ⟨(hdv h).1, (hdv h).2, hcm, zz9.1, zz9.2, by omega, by omega⟩))
 clear hdv hcm zz9 be1 bf1
 replace L:=L.varI w3.heap.size rfl (ng m2) A2 (zl m2) c2 e2 (ng n2) B2 (zl n2) d2 f2
 cases okx
 ·go_wp2_with fail
  go_ret
  exact ⟨rfl, L.below⟩
 cases oky
 ·go_wp2_with fail
  go_ret
  exact ⟨rfl, L.below⟩
 have hX:=Hx.out rfl
 have hY:=Hy.out rfl
 clear Hx Hy
 obtain ⟨k, hk⟩ : ∃ r : Nat, a2 % 60 = (r : Int):=⟨(a2 % 60).toNat, by omega⟩
 have o1:=fun W => mod_any a2 60 W (by omega) (by omega) h2.1 h2.2
 rw [hk] at o1
 have bk : k < 60:=by omega
 have MO1:=Hd9 o1
 have z1:=hX.zm
 have z2:=hX.zn
 have b1:=hX.em
 have b2:=hX.en
 have z3:=hY.zm
 have z4:=hY.zn
 have b3:=hY.em
 have b4:=hY.en
 have g1:=fun v W h (hW : Below w.heap.size w W) => tatan_yes m e n f k v W h (by omega) (by omega) (by omega) (by omega) hX.vm hX.vn hX.small (by omega) (HT.out W hW)
 have g2:=fun v W h (hW : Below w.heap.size w W) => tatan_yes m2 e2 n2 f2 k v W h (by omega) (by omega) (by omega) (by omega) hY.vm hY.vn hY.small (by omega) (HT.out W hW)
 have g3:=fun v u W h k9 => rcmp8_any m e n2 f2 v u W h k9 (by omega) (by omega) (by omega) (by omega)
 rw [show cmpI (m * 2 ^ (e - min e f2).toNat) (n2 * 2 ^ (f2 - min e f2).toNat) = dcm m e n2 f2 from rfl] at g3
 obtain ⟨cm, hcm⟩:=nm9 (dcm m e n2 f2)
 have hc:=dcm_le m e n2 f2
 rw [hcm] at g3 hc
 have HQ:=Hd9 (And.intro hc bk)
 have G1:=Hd9 g1
 have G2:=Hd9 g2
 have G3:=Hd9 g3
 clear o1 hk bk z1 z2 z3 z4 b1 b2 b3 b4 g1 g2 g3 hc hcm hX hY
 obtain ⟨c00,c01,c02,c03,c04,c05⟩:=L.b0.a6
 obtain ⟨c10,c11,c12,c13,c14,c15⟩:=L.tl.b0.a6
 go_wp2_with fail
 clear c00 c01 c02 c03 c04 c05 c10 c11 c12 c13 c14 c15
 obtain ⟨gy, hgy⟩:=nm9 (w3.heap.size)
 rw [hgy] at L hl9 ⊢
 clear hgy
 have hl_gy:=hl9
 clear hl9
 refine (MO1.out _).mono ?_
 rintro e9 w' ⟨rfl, rfl⟩
 obtain ⟨c10,c11,c12,c13,c14,c15⟩:=L.tl.b0.a6
 (try go_wp2_with fail)
 refine (G1.out _ _ (isI_n (m:=m) (e:=e) (n:=n) (f:=f) (s:=.slice A (zl m) c) (t:=.slice B (zl n) d) (L.getN (by simp)) (L.getN (by simp))) L.below).mono ?_
 intro e9 w4 hr9
 obtain ⟨ap, bp, hap, vv, rfl, ii, be⟩:=hr9
 clear c10 c11 c12 c13 c14 c15
 obtain ⟨A3, c3, B3, d3, rfl, ia, ib⟩:=ii.form
 replace L:=((L.step be).n ib).n ia
 clear be ii ia ib
 have hl9:=L.b0.lt
 obtain ⟨Mp, hMp⟩:=nm9 (mkM ap (-(k : Int)))
 obtain ⟨Ep, hEp⟩:=nm9 (mkE ap (-(k : Int)))
 obtain ⟨Np, hNp⟩:=nm9 (mkM bp (-(k : Int)))
 obtain ⟨Fp, hFp⟩:=nm9 (mkE bp (-(k : Int)))
 rw [hMp, hNp] at L ⊢
 rw [hEp, hFp]
 have Hap:=Hd9 (And.intro hap (And.intro (And.intro hMp hEp) (And.intro hNp hFp)))
 clear hap hMp hEp hNp hFp
 replace L:=L.varI w4.heap.size rfl (ng Mp) A3 (zl Mp) c3 Ep (ng Np) B3 (zl Np) d3 Fp
 obtain ⟨c00,c01,c02,c03,c04,c05⟩:=L.b0.a6
 obtain ⟨c10,c11,c12,c13,c14,c15⟩:=L.tl.b0.a6
 go_wp2_with fail
 clear c00 c01 c02 c03 c04 c05 c10 c11 c12 c13 c14 c15
 obtain ⟨gp, hgp⟩:=nm9 (w4.heap.size)
 rw [hgp] at L hl9 ⊢
 clear hgp
 have hl_gp:=hl9
 clear hl9
 refine (G2.out _ _ (isI_n (m:=m2) (e:=e2) (n:=n2) (f:=f2) (s:=.slice A2 (zl m2) c2) (t:=.slice B2 (zl n2) d2) (L.getN (by simp)) (L.getN (by simp))) L.below).mono ?_
 intro e9 w5 hr9
 obtain ⟨aq, bq, haq, vv, rfl, ii, be⟩:=hr9
 obtain ⟨A4, c4, B4, d4, rfl, ia, ib⟩:=ii.form
 replace L:=((L.step be).n ib).n ia
 clear be ii ia ib
 have hl9:=L.b0.lt
 obtain ⟨Mq, hMq⟩:=nm9 (mkM aq (-(k : Int)))
 obtain ⟨Eq, hEq⟩:=nm9 (mkE aq (-(k : Int)))
 obtain ⟨Nq, hNq⟩:=nm9 (mkM bq (-(k : Int)))
 obtain ⟨Fq, hFq⟩:=nm9 (mkE bq (-(k : Int)))
 rw [hMq, hNq] at L ⊢
 rw [hEq, hFq]
 have Haq:=Hd9 (And.intro haq (And.intro (And.intro hMq hEq) (And.intro hNq hFq)))
 clear haq hMq hEq hNq hFq
 replace L:=L.varI w5.heap.size rfl (ng Mq) A4 (zl Mq) c4 Eq (ng Nq) B4 (zl Nq) d4 Fq
 obtain ⟨c00,c01,c02,c03,c04,c05⟩:=L.b0.a6
 obtain ⟨c20,c21,c22,c23,c24,c25⟩:=L.tl.tl.b0.a6
 obtain ⟨c30,c31,c32,c33,c34,c35⟩:=L.tl.tl.tl.b0.a6
 go_wp2_with fail
 clear c00 c01 c02 c03 c04 c05 c20 c21 c22 c23 c24 c25 c30 c31 c32 c33 c34 c35
 obtain ⟨gq, hgq⟩:=nm9 (w5.heap.size)
 rw [hgq] at L hl9 ⊢
 clear hgq
 have hl_gq:=hl9
 clear hl9
 obtain ⟨hc, bk⟩:=HQ.out
 obtain ⟨⟨eap, fap, zaap, zbap⟩, ⟨hMp, hEp⟩, hNp, hFp⟩:=Hap.out
 obtain ⟨pap1, pap2, pap3, pap4⟩:=gr16 (k:=k) zaap (by omega) (by omega)
 obtain ⟨qap1, qap2, qap3, qap4⟩:=gr16 (k:=k) zbap (by omega) (by omega)
 rw [hMp] at pap1
 rw [hEp] at pap2
 rw [hMp, hEp] at pap3 pap4
 rw [hNp] at qap1
 rw [hFp] at qap2
 rw [hNp, hFp] at qap3 qap4
 clear hMp hEp hNp hFp
 obtain ⟨⟨eaq, faq, zaaq, zbaq⟩, ⟨hMq, hEq⟩, hNq, hFq⟩:=Haq.out
 obtain ⟨paq1, paq2, paq3, paq4⟩:=gr16 (k:=k) zaaq (by omega) (by omega)
 obtain ⟨qaq1, qaq2, qaq3, qaq4⟩:=gr16 (k:=k) zbaq (by omega) (by omega)
 rw [hMq] at paq1
 rw [hEq] at paq2
 rw [hMq, hEq] at paq3 paq4
 rw [hNq] at qaq1
 rw [hFq] at qaq2
 rw [hNq, hFq] at qaq3 qaq4
 clear hMq hEq hNq hFq
 have g7:=fun v u W h k9 => r10cmp_any Mp Ep Np Fp Mq Eq Nq Fq v u W h k9 (by omega) (by omega) (by omega) (by omega) (by omega) (by omega) (by omega) (by omega)
 have hci : cm ≤ 0 → icm Mp Ep Np Fp Mq Eq Nq Fq ≤ 0:=fun h => by
  refine icm_le16 ?_
  rw [pap4, qaq4]
  exact ea_eb eap faq (hc.1 h)
 obtain ⟨ci, hci9⟩:=nm9 (icm Mp Ep Np Fp Mq Eq Nq Fq)
 rw [hci9] at hci g7
 have G7:=Hd9 g7
 clear g7 hci9 hc bk eap fap zaap zbap pap1 qap1 pap2 qap2 pap3 qap3 pap4 qap4 eaq faq zaaq zbaq paq1 qaq1 paq2 qaq2 paq3 qaq3 paq4 qaq4
 rcases Int.lt_or_le 0 cm with hcm | hcm
 ·have dd1 : decide (0 < cm) = true:=decide_eq_true hcm
  refine (G3.out _ _ _ (isD_n (m:=m) (e:=e) (s:=.slice A (zl m) c) (L.getN (by simp))) (isD_n (m:=n2) (e:=f2) (s:=.slice B2 (zl n2) d2) (L.getN (by simp)))).mono ?_
  rintro e w6 ⟨rfl, be⟩
  replace L:=L.step be
  clear be
  (try go_wp2_with fail)
  (try go_ret)
  exact ⟨rfl, L.below⟩
 ·have dd1 : decide (0 < cm) = false:=decide_eq_false (Int.not_lt.2 hcm)
  have dd2 : decide (ci ≤ 0) = true:=decide_eq_true (hci hcm)
  clear hci
  refine (G3.out _ _ _ (isD_n (m:=m) (e:=e) (s:=.slice A (zl m) c) (L.getN (by simp))) (isD_n (m:=n2) (e:=f2) (s:=.slice B2 (zl n2) d2) (L.getN (by simp)))).mono ?_
  rintro e w6 ⟨rfl, be⟩
  replace L:=L.step be
  clear be
  obtain ⟨c00,c01,c02,c03,c04,c05⟩:=L.b0.a6
  obtain ⟨c10,c11,c12,c13,c14,c15⟩:=L.tl.b0.a6
  (try go_wp2_with fail)
  refine (G7.out _ _ _ (isI_n (m:=Mp) (e:=Ep) (n:=Np) (f:=Fp) (s:=.slice A3 (zl Mp) c3) (t:=.slice B3 (zl Np) d3) (L.getN (by simp)) (L.getN (by simp))) (isI_n (m:=Mq) (e:=Eq) (n:=Nq) (f:=Fq) (s:=.slice A4 (zl Mq) c4) (t:=.slice B4 (zl Nq) d4) (L.getN (by simp)) (L.getN (by simp)))).mono ?_
  rintro e w7 ⟨rfl, be⟩
  clear c00 c01 c02 c03 c04 c05 c10 c11 c12 c13 c14 c15
  replace L:=L.step be
  clear be
  (try go_wp2_with fail)
  (try go_ret)
  exact ⟨rfl, L.below⟩

end Go.Proofs.YtmgbjldogggpcaaGreatDoor
