/- The walk of ArctangentPi: whatever the input, the law returns true and turns nothing that was there. -/
import Derived.Test.YtmgbjldogggpcaaGreatDoorJV4
import Derived.Deep.RegionHeld3
import Derived.Deep.DrawnRows
import Derived.Deep.Cut
import Derived.Deep.CutRange
namespace Go.Proofs.YtmgbjldogggpcaaGreatDoor
set_option maxHeartbeats 64000000
open Go.RowKit
set_option linter.unusedVariables false
set_option linter.unusedSimpArgs false
set_option maxRecDepth 100000
attribute [local go_sem ↓] Go.wp_at_zero Go.wp_at_succ

theorem min4_two {p q : Rat} (h : p ≤ q) : min4 p q p q = p ∧ max4 p q p q = q:=by
 have a1 : rmin p q = p:=by unfold rmin; rw [if_pos h]
 have a2 : rmax p q = q:=by unfold rmax; rw [if_pos h]
 unfold min4 max4
 rw [a1, a2]
 constructor
 ·unfold rmin; rw [if_pos Rat.le_refl]
 ·unfold rmax; rw [if_pos Rat.le_refl]
theorem en_grid {A B : Int} {k : Nat} (ha : AbP A (k + 100)) (hb : AbP B (k + 100)) (hle : A ≤ B) (hk : k ≤ 400) : ∀ W, RetEn W (dq A (-(k : Int))) (dq B (-(k : Int))) (k : Int) = RetIE W (mkM A (-(k : Int))) (mkE A (-(k : Int))) (mkM B (-(k : Int))) (mkE B (-(k : Int))) 0:=fun W => by
 have hwk : workB (k : Int) = true:=by
  unfold workB
  rw [decide_eq_true (show (0 : Int) ≤ (k : Int) by omega), decide_eq_true (show (k : Int) ≤ 4096 by omega)]
  rfl
 have z1:=ha.zl
 have z2:=hb.zl
 have e1:=cut_self A (k : Int)
 have e2 : -(cutQ (-(dq B (-(k : Int)))) (k : Int)) = B:=by rw [← dq_neg, cut_self, Int.neg_neg]
 have t : ((k : Int)).toNat = k:=rfl
 rw [RetEn.ok (lo:=dq A (-(k : Int))) (hi:=dq B (-(k : Int))) hwk (z:=10) (by rw [e1, t]; omega) (by rw [e2, t]; omega) (by omega) ((dq_le_iff _ _ _).2 hle) W]
 unfold enM enE upM upE
 rw [e1, e2]
theorem ab_times {c x : Int} {k : Nat} (hc : c.natAbs ≤ 16) (h : AbP x (k + 21)) : AbP (c * x) (k + 30):=by
 have e1 : (2 : Nat) ^ (k + 21) = 2 ^ k * 2097152:=by rw [Nat.pow_add]
 have e2 : (2 : Nat) ^ (k + 30) = 2 ^ k * 1073741824:=by rw [Nat.pow_add]
 have h2 : c.natAbs * x.natAbs ≤ 16 * (2 ^ k * 2097152):=Nat.mul_le_mul hc (by rw [← e1]; exact h)
 unfold AbP
 rw [Int.natAbs_mul, e2]
 omega
theorem mul_grid {c a b m e n f M E : Int} {k : Nat} (hc0 : 0 ≤ c) (hc : c ≤ 16) (hab : a ≤ b) (za : AbP a (k + 21)) (zb : AbP b (k + 21)) (hk : k ≤ 400) (ha : dq m e = dq a (-(k : Int))) (hb : dq n f = dq b (-(k : Int))) (hM : dq M E = (c : Rat)) : ∀ W, RetEn W (min4 (dq M E * dq m e) (dq M E * dq n f) (dq M E * dq m e) (dq M E * dq n f)) (max4 (dq M E * dq m e) (dq M E * dq n f) (dq M E * dq m e) (dq M E * dq n f)) (k : Int) = RetIE W (mkM (c * a) (-(k : Int))) (mkE (c * a) (-(k : Int))) (mkM (c * b) (-(k : Int))) (mkE (c * b) (-(k : Int))) 0:=fun W => by
 have hle : c * a ≤ c * b:=Int.mul_le_mul_of_nonneg_left hab hc0
 rw [hM, ha, hb, ← dq_times, ← dq_times]
 have h2:=(dq_le_iff (c * a) (c * b) (-(k : Int))).2 hle
 rw [(min4_two h2).1, (min4_two h2).2]
 exact en_grid ((ab_times (by omega) za).up (by omega)) ((ab_times (by omega) zb).up (by omega)) hle hk W

theorem walk_ArctangentPi (a0 : Int) (w : World) (h0 : -9223372036854775808 ≤ a0 ∧ a0 ≤ 9223372036854775807) (hT : Tab w) :
  Calls Tryz.prog 8 #[.int .i64 a0] w (fun e w' => e = .returned (.bool true) ∧ Below w.heap.size w w'):=by
 have HT:=Hd9 (fun W (hW : Below w.heap.size w W) => hT.mono hW)
 clear hT
 go_enter Tryz.func8, Tryz.ntmps8
 go_wp2_with fail
 have L:=(Lq.mk0 w)
 (try go_wp2_with fail)
 refine (awake16_any _ (HT.out _ L.below)).mono ?_
 rintro e9 w1 ⟨rfl, be⟩
 replace L:=L.step be
 clear be
 (try go_wp2_with fail)
 obtain ⟨k, hk⟩ : ∃ r : Nat, a0 % 150 = (r : Int):=⟨(a0 % 150).toNat, by omega⟩
 have o1:=fun W => mod_any a0 150 W (by omega) (by omega) h0.1 h0.2
 rw [hk] at o1
 have bk : k < 150:=by omega
 have MO1:=Hd9 o1
 obtain ⟨T, hT9, hC⟩:=cn_pi (k:=k) (by omega)
 have HC:=Hd9 hC
 have HBK:=Hd9 bk
 have g1:=fun W (hW : Below w.heap.size w W) => cpi_yes k T W (by omega) (HT.out W hW) hT9
 obtain ⟨x1, x2, x3, x4⟩:=gr16 (k:=k) hC.al (by omega) (by omega)
 obtain ⟨y1, y2, y3, y4⟩:=gr16 (k:=k) hC.ah (by omega) (by omega)
 have g2:=fun W => of16_any 1 1 W (by omega) (by omega)
 have g4:=fun W => of16_any 4 4 W (by omega) (by omega)
 have g16:=fun W => of16_any 16 16 W (by omega) (by omega)
 have aone : AbP 1 4:=by unfold AbP; decide
 have afour : AbP 4 4:=by unfold AbP; decide
 have asix : AbP 16 4:=by unfold AbP; decide
 obtain ⟨_, o2, o3, o4, o5⟩:=nx (x:=0) aone (by omega) (by omega)
 obtain ⟨_, f2, f3, f4, f5⟩:=nx (x:=0) afour (by omega) (by omega)
 obtain ⟨_, s2, s3, s4, s5⟩:=nx (x:=0) asix (by omega) (by omega)
 rw [dq_int] at o5 f5 s5
 have g3:=fun v W h (hW : Below w.heap.size w W) => tatan_yes (mkM 1 0) (mkE 1 0) (mkM 1 0) (mkE 1 0) k v W h (by omega) (by omega) (by omega) (by omega) o4 o4 (small16 (by omega) (by omega) (by omega) (by omega) (by rw [dcm_self]; omega)) (by omega) (HT.out W hW)
 have g5:=fun W (hW : Below w.heap.size w W) => trecip_yes 5 k W (by omega) (by omega) (by omega) (HT.out W hW)
 have g6:=fun W (hW : Below w.heap.size w W) => trecip_yes 239 k W (by omega) (by omega) (by omega) (HT.out W hW)
 have HO:=Hd9 (show dq (mkM 1 0) (mkE 1 0) = (1 : Rat)⁻¹ by rw [o5]; decide +kernel)
 obtain ⟨ML, hML⟩:=nm9 (mkM (loC T) (-(k : Int)))
 rw [hML] at g1 x1 x3 x4
 clear hML
 obtain ⟨EL, hEL⟩:=nm9 (mkE (loC T) (-(k : Int)))
 rw [hEL] at g1 x2 x3 x4
 clear hEL
 obtain ⟨MH, hMH⟩:=nm9 (mkM (hiC T) (-(k : Int)))
 rw [hMH] at g1 y1 y3 y4
 clear hMH
 obtain ⟨EH, hEH⟩:=nm9 (mkE (hiC T) (-(k : Int)))
 rw [hEH] at g1 y2 y3 y4
 clear hEH
 obtain ⟨MO, hMO⟩:=nm9 (mkM 1 0)
 rw [hMO] at g2 g3 HO
 clear hMO
 obtain ⟨EO, hEO⟩:=nm9 (mkE 1 0)
 rw [hEO] at g2 g3 HO
 clear hEO
 obtain ⟨M4, hM4⟩:=nm9 (mkM 4 0)
 rw [hM4] at g4 f2 f4 f5
 clear hM4
 obtain ⟨E4, hE4⟩:=nm9 (mkE 4 0)
 rw [hE4] at g4 f3 f4 f5
 clear hE4
 obtain ⟨MS, hMS⟩:=nm9 (mkM 16 0)
 rw [hMS] at g16 s2 s4 s5
 clear hMS
 obtain ⟨ES, hES⟩:=nm9 (mkE 16 0)
 rw [hES] at g16 s3 s4 s5
 clear hES
 have HX:=Hd9 (And.intro x1 (And.intro x2 x4))
 have HY:=Hd9 (And.intro y1 (And.intro y2 y4))
 have H4:=Hd9 (And.intro f2 (And.intro f3 f5))
 have H16:=Hd9 (And.intro s2 (And.intro s3 s5))
 have G1:=Hd9 g1
 have G2:=Hd9 g2
 have G3:=Hd9 g3
 have G4:=Hd9 g4
 have G16:=Hd9 g16
 have G5:=Hd9 g5
 have G6:=Hd9 g6
 clear g1 g2 g3 g4 g16 g5 g6 x1 x2 x3 x4 y1 y2 y3 y4 aone afour asix o1 o2 o3 o4 o5 f2 f3 f4 f5 s2 s3 s4 s5 hk bk hT9 hC
 refine (MO1.out _).mono ?_
 rintro e9 w' ⟨rfl, rfl⟩
 (try go_wp2_with fail)
 refine (G1.out _ L.below).mono ?_
 rintro e w2 ⟨v9, rfl, ii, be⟩
 obtain ⟨A1, c1, B1, d1, rfl, ia, ib⟩:=ii.form
 replace L:=((L.step be).n ib).n ia
 clear be ii ia ib
 have hl9 : 0 ≤ w2.heap.size:=Nat.zero_le _
 replace L:=L.varI w2.heap.size rfl (ng ML) A1 (zl ML) c1 EL (ng MH) B1 (zl MH) d1 EH
 (try go_wp2_with fail)
 obtain ⟨gp, hgp⟩:=nm9 (w2.heap.size)
 rw [hgp] at L hl9 ⊢
 clear hgp
 have hl_gp:=hl9
 clear hl9
 refine (G2.out _).mono ?_
 rintro e w3 ⟨v9, rfl, ii, be⟩
 obtain ⟨A2, c2, B2, d2, rfl, ia, ib⟩:=ii.form
 replace L:=((L.step be).n ib).n ia
 clear be ii ia ib
 (try go_wp2_with fail)
 refine (G3.out _ _ (isI_n (m:=MO) (e:=EO) (n:=MO) (f:=EO) (s:=.slice A2 (zl MO) c2) (t:=.slice B2 (zl MO) d2) (L.getN (by simp)) (L.getN (by simp))) L.below).mono ?_
 intro e9 w4 hr9
 obtain ⟨a, b, ha, vv, rfl, ii, be⟩:=hr9
 obtain ⟨A3, c3, B3, d3, rfl, ia, ib⟩:=ii.form
 replace L:=((L.step be).n ib).n ia
 clear be ii ia ib
 have hl9:=L.b0.lt
 obtain ⟨Ma, hMa⟩:=nm9 (mkM a (-(k : Int)))
 obtain ⟨Ea, hEa⟩:=nm9 (mkE a (-(k : Int)))
 obtain ⟨Na, hNa⟩:=nm9 (mkM b (-(k : Int)))
 obtain ⟨Fa, hFa⟩:=nm9 (mkE b (-(k : Int)))
 rw [hMa, hNa] at L ⊢
 rw [hEa, hFa]
 have Ha:=Hd9 (And.intro ha (And.intro (And.intro hMa hEa) (And.intro hNa hFa)))
 clear ha hMa hEa hNa hFa
 replace L:=L.varI w4.heap.size rfl (ng Ma) A3 (zl Ma) c3 Ea (ng Na) B3 (zl Na) d3 Fa
 obtain ⟨c00,c01,c02,c03,c04,c05⟩:=L.b0.a6
 (try go_wp2_with fail)
 clear c00 c01 c02 c03 c04 c05
 obtain ⟨ga, hga⟩:=nm9 (w4.heap.size)
 rw [hga] at L hl9 ⊢
 clear hga
 have hl_ga:=hl9
 clear hl9
 obtain ⟨⟨ea, fa, zaa, zba⟩, ⟨hMa, hEa⟩, hNa, hFa⟩:=Ha.out
 obtain ⟨p1, p2, p3, p4⟩:=gr16 (k:=k) zaa (by have:=HBK.out; omega) (by have:=HBK.out; omega)
 obtain ⟨q1, q2, q3, q4⟩:=gr16 (k:=k) zba (by have:=HBK.out; omega) (by have:=HBK.out; omega)
 rw [hMa] at p1
 rw [hEa] at p2
 rw [hMa, hEa] at p3 p4
 rw [hNa] at q1
 rw [hFa] at q2
 rw [hNa, hFa] at q3 q4
 clear hMa hEa hNa hFa
 have hle9 : a ≤ b:=(dq_le_iff _ _ _).1 (ea_eb ea fa Rat.le_refl)
 obtain ⟨f2, f3, f5⟩:=H4.out
 have bk:=HBK.out
 have gm:=fun x y W h i (hW : Below w.heap.size w W) => amul_any M4 E4 M4 E4 Ma Ea Na Fa (k : Int) x y W h i (by omega) (by omega) (by omega) (by omega) (by omega) (by omega) (by omega) (by omega) (by rw [dcm_self]; omega) ((dcm_le _ _ _ _).2 (by rw [p4, q4]; exact (dq_le_iff _ _ _).2 hle9)) (by omega) (by omega) (HT.out W hW)
 have hmg:=mul_grid (c:=4) (by omega) (by omega) hle9 zaa zba (show k ≤ 400 by omega) p4 q4 f5
 simp only [hmg] at gm
 have zAb4:=ab_times (c:=4) (by decide) zaa
 have zBb4:=ab_times (c:=4) (by decide) zba
 obtain ⟨Mb, hMb⟩:=nm9 (mkM (4 * a) (-(k : Int)))
 rw [hMb] at gm
 obtain ⟨Eb, hEb⟩:=nm9 (mkE (4 * a) (-(k : Int)))
 rw [hEb] at gm
 obtain ⟨Nb, hNb⟩:=nm9 (mkM (4 * b) (-(k : Int)))
 rw [hNb] at gm
 obtain ⟨Fb, hFb⟩:=nm9 (mkE (4 * b) (-(k : Int)))
 rw [hFb] at gm
 have Hb4:=Hd9 (And.intro (And.intro ea (And.intro fa hle9)) (And.intro (And.intro zAb4 zBb4) (And.intro (And.intro hMb hEb) (And.intro hNb hFb))))
 have GMb4:=Hd9 gm
 clear gm hmg p1 p2 p3 p4 q1 q2 q3 q4 f2 f3 f5 bk hle9 ea fa zaa zba zAb4 zBb4 hMb hEb hNb hFb 
 (try go_wp2_with fail)
 obtain ⟨V, hV, L9⟩:=L.name
 rw [hV]
 clear hV L
 have L:=L9
 clear L9
 have Q0:=Hd9 (fun Z (hZ : Below V.heap.size V Z) => (L.b0.mono hZ).c60)
 have Q1:=Hd9 (fun Z (hZ : Below V.heap.size V Z) => (L.b0.mono hZ).c61)
 have Q2:=Hd9 (fun Z (hZ : Below V.heap.size V Z) => (L.b0.mono hZ).c62)
 have Q3:=Hd9 (fun Z (hZ : Below V.heap.size V Z) => (L.b0.mono hZ).c63)
 have Q4:=Hd9 (fun Z (hZ : Below V.heap.size V Z) => (L.b0.mono hZ).c64)
 have Q5:=Hd9 (fun Z (hZ : Below V.heap.size V Z) => (L.b0.mono hZ).c65)
 have hb0:=L.b0.lt
 have D0 : Dq V V [(.slice A3 (zl Ma) c3, (Ma : Int).natAbs), (.slice B3 (zl Na) d3, (Na : Int).natAbs)] [] [] []:=⟨(((Lq.mk0 V).n (L.getN (v:=.slice B3 (zl Na) d3) (x:=(Na : Int).natAbs) (by simp))).n (L.getN (v:=.slice A3 (zl Ma) c3) (x:=(Ma : Int).natAbs) (by simp))), List.nodup_nil, fun p hp => by cases hp⟩
 have D:=D0.drew
 have hVw:=L.below.size
 have HVW:=Hd9 (fun Z (hZ : Below V.heap.size V Z) => L.below.trans (hZ.mono hVw))
 have LL:=Hd9 L
 clear L
 obtain ⟨K, hK⟩:=nm9 (V.heap.size)
 have hz0 : K ≤ V.heap.size:=by omega
 have hmd : V.drew.heap.size = K:=hK
 have hc0 : ga < K:=by omega
 go_cut [7, 8] from 34 to 40 (fun s0 s1 wx => s1 = .int .i64 0 ∧ Made1I V Mb Eb Nb Fb s0 wx)
 case first =>
  go_region_held3 (fun w' => w'.cell? ⟨ga, 0, none⟩ = some (.bool (ng Ma)) ∧ w'.cell? ⟨ga, 1, none⟩ = some (.slice A3 (zl Ma) c3) ∧ w'.cell? ⟨ga, 2, none⟩ = some (.int .i64 Ea) ∧ w'.cell? ⟨ga, 3, none⟩ = some (.bool (ng Na)) ∧ w'.cell? ⟨ga, 4, none⟩ = some (.slice B3 (zl Na) d3) ∧ w'.cell? ⟨ga, 5, none⟩ = some (.int .i64 Fa)) (((try dsimp only); refine ⟨?_, ?_, ?_, ?_, ?_, ?_⟩ <;> (repeat (first | (with_reducible exact Q0.out _ D.lq.below) | (with_reducible exact Q0.out _ D0.lq.below) | (with_reducible exact Q1.out _ D.lq.below) | (with_reducible exact Q1.out _ D0.lq.below) | (with_reducible exact Q2.out _ D.lq.below) | (with_reducible exact Q2.out _ D0.lq.below) | (with_reducible exact Q3.out _ D.lq.below) | (with_reducible exact Q3.out _ D0.lq.below) | (with_reducible exact Q4.out _ D.lq.below) | (with_reducible exact Q4.out _ D0.lq.below) | (with_reducible exact Q5.out _ D.lq.below) | (with_reducible exact Q5.out _ D0.lq.below) | (with_reducible refine c_alloc _ ?_) | (with_reducible refine c_drew ?_) | (with_reducible refine c_set ?_ (by assumption) ?_) | omega)))) (first | (go_at_call 27; (with_reducible refine (G4.out _).mono ?_); rintro e9 wh ⟨vh, rfl, ii, be⟩; obtain ⟨Ao, co, Bo, do9, rfl, ia, ib⟩:=ii.form; (first | (replace D:=D.step be) | (replace D:=(D.boxMI hmd false none 0 0 0 false none 0 0 0).step be) | (replace D:=(D.boxI false none 0 0 0 false none 0 0 0).step be)); have hz:=be.size; (try simp at hz); replace D:=(D.n ib).n ia; (try (obtain ⟨x00,x01,x02,x03,x04,x05⟩:=D.lq.b0.a6; obtain ⟨y00,y01,y02,y03,y04,y05⟩:=D.lq.b0.f6)); (try obtain ⟨na, nb, nc, nd, nl⟩:=D.n0)) | (go_at_call 29; (with_reducible refine (GMb4.out _ _ _ ?_ ?_ ?_).mono ?_); (· (first | (with_reducible refine isI_n (D.getN ?_) (D.getN ?_) <;> (repeat (first | (with_reducible exact mS) | apply mT))) | (with_reducible refine isI_n ((D.boxI false none 0 0 0 false none 0 0 0).getN ?_) ((D.boxI false none 0 0 0 false none 0 0 0).getN ?_) <;> (repeat (first | (with_reducible exact mS) | apply mT))) | (with_reducible refine isI_n ((D0.boxI false none 0 0 0 false none 0 0 0).drew.getN ?_) ((D0.boxI false none 0 0 0 false none 0 0 0).drew.getN ?_) <;> (repeat (first | (with_reducible exact mS) | apply mT))))); (· (first | (with_reducible refine isI_n (D.getN ?_) (D.getN ?_) <;> (repeat (first | (with_reducible exact mS) | apply mT))) | (with_reducible refine isI_n ((D.boxI false none 0 0 0 false none 0 0 0).getN ?_) ((D.boxI false none 0 0 0 false none 0 0 0).getN ?_) <;> (repeat (first | (with_reducible exact mS) | apply mT))) | (with_reducible refine isI_n ((D0.boxI false none 0 0 0 false none 0 0 0).drew.getN ?_) ((D0.boxI false none 0 0 0 false none 0 0 0).drew.getN ?_) <;> (repeat (first | (with_reducible exact mS) | apply mT))))); (· (first | (with_reducible exact HVW.out _ D.lq.below) | (with_reducible exact HVW.out _ (D.boxI false none 0 0 0 false none 0 0 0).lq.below) | (with_reducible exact HVW.out _ (D0.boxI false none 0 0 0 false none 0 0 0).drew.lq.below))); rintro e9 wh ⟨vh, rfl, ii, be⟩; obtain ⟨Am, cm9, Bm, dm9, rfl, ia, ib⟩:=ii.form; (first | (replace D:=D.step be) | (replace D:=(D.boxMI hmd false none 0 0 0 false none 0 0 0).step be) | (replace D:=(D.boxI false none 0 0 0 false none 0 0 0).step be)); have hz:=be.size; (try simp at hz); replace D:=(D.n ib).n ia; (try (obtain ⟨x00,x01,x02,x03,x04,x05⟩:=D.lq.b0.a6; obtain ⟨y00,y01,y02,y03,y04,y05⟩:=D.lq.b0.f6)); (try obtain ⟨na, nb, nc, nd, nl⟩:=D.n0)))
  all_goals
   go_wp2_with fail
   go_meet
   refine ⟨rfl, ?_⟩
   first
   | ((with_reducible refine made1i_a D ?_ ?_) <;> (repeat (first | (with_reducible exact mS) | apply mT)))
   | ((with_reducible refine made1i_b D ?_ ?_) <;> (repeat (first | (with_reducible exact mS) | apply mT)))
 case rest =>
  obtain ⟨rfl, gb, A4, c4, B4, d4, rfl, hg9, bw, hb9, q1, q2⟩:=hcut
  have L:=(((LL.out.step bw).n q2).n q1).b hb9
  have hl_gb:=hg9
  clear D D0 hmd LL hb9 q1 q2 bw hg9 HVW Q0 Q1 Q2 Q3 Q4 Q5 hc0
  generalize wc = wd4 at *
  (try go_wp2_with fail)
  refine (G5.out _ L.below).mono ?_
  intro e9 w6 hr9
  obtain ⟨x, y, hx, vv, rfl, ii, be⟩:=hr9
  obtain ⟨A5, c5, B5, d5, rfl, ia, ib⟩:=ii.form
  replace L:=((L.step be).n ib).n ia
  clear be ii ia ib
  have hl9:=L.b0.lt
  obtain ⟨Mx, hMx⟩:=nm9 (mkM x (-(k : Int)))
  obtain ⟨Ex, hEx⟩:=nm9 (mkE x (-(k : Int)))
  obtain ⟨Nx, hNx⟩:=nm9 (mkM y (-(k : Int)))
  obtain ⟨Fx, hFx⟩:=nm9 (mkE y (-(k : Int)))
  rw [hMx, hNx] at L ⊢
  rw [hEx, hFx]
  have Hx:=Hd9 (And.intro hx (And.intro (And.intro hMx hEx) (And.intro hNx hFx)))
  clear hx hMx hEx hNx hFx
  replace L:=L.varI w6.heap.size rfl (ng Mx) A5 (zl Mx) c5 Ex (ng Nx) B5 (zl Nx) d5 Fx
  obtain ⟨c00,c01,c02,c03,c04,c05⟩:=L.b0.a6
  (try go_wp2_with fail)
  clear c00 c01 c02 c03 c04 c05
  obtain ⟨gx, hgx⟩:=nm9 (w6.heap.size)
  rw [hgx] at L hl9 ⊢
  clear hgx
  have hl_gx:=hl9
  clear hl9
  refine (G6.out _ L.below).mono ?_
  intro e9 w7 hr9
  obtain ⟨x2, y2, hx2, vv, rfl, ii, be⟩:=hr9
  obtain ⟨A6, c6, B6, d6, rfl, ia, ib⟩:=ii.form
  replace L:=((L.step be).n ib).n ia
  clear be ii ia ib
  have hl9:=L.b0.lt
  obtain ⟨My, hMy⟩:=nm9 (mkM x2 (-(k : Int)))
  obtain ⟨Ey, hEy⟩:=nm9 (mkE x2 (-(k : Int)))
  obtain ⟨Ny, hNy⟩:=nm9 (mkM y2 (-(k : Int)))
  obtain ⟨Fy, hFy⟩:=nm9 (mkE y2 (-(k : Int)))
  rw [hMy, hNy] at L ⊢
  rw [hEy, hFy]
  have Hx2:=Hd9 (And.intro hx2 (And.intro (And.intro hMy hEy) (And.intro hNy hFy)))
  clear hx2 hMy hEy hNy hFy
  replace L:=L.varI w7.heap.size rfl (ng My) A6 (zl My) c6 Ey (ng Ny) B6 (zl Ny) d6 Fy
  obtain ⟨c00,c01,c02,c03,c04,c05⟩:=L.b0.a6
  (try go_wp2_with fail)
  clear c00 c01 c02 c03 c04 c05
  obtain ⟨gy, hgy⟩:=nm9 (w7.heap.size)
  rw [hgy] at L hl9 ⊢
  clear hgy
  have hl_gy:=hl9
  clear hl9
  obtain ⟨⟨ex, fx, zax, zbx, lex, tix⟩, ⟨hMx, hEx⟩, hNx, hFx⟩:=Hx.out
  obtain ⟨p1, p2, p3, p4⟩:=gr16 (k:=k) zax (by have:=HBK.out; omega) (by have:=HBK.out; omega)
  obtain ⟨q1, q2, q3, q4⟩:=gr16 (k:=k) zbx (by have:=HBK.out; omega) (by have:=HBK.out; omega)
  rw [hMx] at p1
  rw [hEx] at p2
  rw [hMx, hEx] at p3 p4
  rw [hNx] at q1
  rw [hFx] at q2
  rw [hNx, hFx] at q3 q4
  clear hMx hEx hNx hFx
  have hle9 : x ≤ y:=lex
  obtain ⟨f2, f3, f5⟩:=H16.out
  have bk:=HBK.out
  have gm:=fun x y W h i (hW : Below w.heap.size w W) => amul_any MS ES MS ES Mx Ex Nx Fx (k : Int) x y W h i (by omega) (by omega) (by omega) (by omega) (by omega) (by omega) (by omega) (by omega) (by rw [dcm_self]; omega) ((dcm_le _ _ _ _).2 (by rw [p4, q4]; exact (dq_le_iff _ _ _).2 hle9)) (by omega) (by omega) (HT.out W hW)
  have hmg:=mul_grid (c:=16) (by omega) (by omega) hle9 zax zbx (show k ≤ 400 by omega) p4 q4 f5
  simp only [hmg] at gm
  have zAu16:=ab_times (c:=16) (by decide) zax
  have zBu16:=ab_times (c:=16) (by decide) zbx
  obtain ⟨Mu, hMu⟩:=nm9 (mkM (16 * x) (-(k : Int)))
  rw [hMu] at gm
  obtain ⟨Eu, hEu⟩:=nm9 (mkE (16 * x) (-(k : Int)))
  rw [hEu] at gm
  obtain ⟨Nu, hNu⟩:=nm9 (mkM (16 * y) (-(k : Int)))
  rw [hNu] at gm
  obtain ⟨Fu, hFu⟩:=nm9 (mkE (16 * y) (-(k : Int)))
  rw [hFu] at gm
  have Hu16:=Hd9 (And.intro (And.intro ex (And.intro fx hle9)) (And.intro (And.intro zAu16 zBu16) (And.intro (And.intro hMu hEu) (And.intro hNu hFu))))
  have GMu16:=Hd9 gm
  clear gm hmg p1 p2 p3 p4 q1 q2 q3 q4 f2 f3 f5 bk hle9 ex fx zax zbx zAu16 zBu16 hMu hEu hNu hFu lex tix
  (try go_wp2_with fail)
  obtain ⟨V, hV, L9⟩:=L.name
  rw [hV]
  clear hV L
  have L:=L9
  clear L9
  have Q0:=Hd9 (fun Z (hZ : Below V.heap.size V Z) => (L.tl.b0.mono hZ).c60)
  have Q1:=Hd9 (fun Z (hZ : Below V.heap.size V Z) => (L.tl.b0.mono hZ).c61)
  have Q2:=Hd9 (fun Z (hZ : Below V.heap.size V Z) => (L.tl.b0.mono hZ).c62)
  have Q3:=Hd9 (fun Z (hZ : Below V.heap.size V Z) => (L.tl.b0.mono hZ).c63)
  have Q4:=Hd9 (fun Z (hZ : Below V.heap.size V Z) => (L.tl.b0.mono hZ).c64)
  have Q5:=Hd9 (fun Z (hZ : Below V.heap.size V Z) => (L.tl.b0.mono hZ).c65)
  have hb0:=L.tl.b0.lt
  have D0 : Dq V V [(.slice A5 (zl Mx) c5, (Mx : Int).natAbs), (.slice B5 (zl Nx) d5, (Nx : Int).natAbs)] [] [] []:=⟨(((Lq.mk0 V).n (L.getN (v:=.slice B5 (zl Nx) d5) (x:=(Nx : Int).natAbs) (by simp))).n (L.getN (v:=.slice A5 (zl Mx) c5) (x:=(Mx : Int).natAbs) (by simp))), List.nodup_nil, fun p hp => by cases hp⟩
  have D:=D0.drew
  have hVw:=L.below.size
  have HVW:=Hd9 (fun Z (hZ : Below V.heap.size V Z) => L.below.trans (hZ.mono hVw))
  have LL:=Hd9 L
  clear L
  obtain ⟨K, hK⟩:=nm9 (V.heap.size)
  have hz0 : K ≤ V.heap.size:=by omega
  have hmd : V.drew.heap.size = K:=hK
  have hc0 : gx < K:=by omega
  go_cut [13, 14] from 51 to 57 (fun s0 s1 wx => s1 = .int .i64 0 ∧ Made1I V Mu Eu Nu Fu s0 wx)
  case first =>
   go_region_held3 (fun w' => w'.cell? ⟨gx, 0, none⟩ = some (.bool (ng Mx)) ∧ w'.cell? ⟨gx, 1, none⟩ = some (.slice A5 (zl Mx) c5) ∧ w'.cell? ⟨gx, 2, none⟩ = some (.int .i64 Ex) ∧ w'.cell? ⟨gx, 3, none⟩ = some (.bool (ng Nx)) ∧ w'.cell? ⟨gx, 4, none⟩ = some (.slice B5 (zl Nx) d5) ∧ w'.cell? ⟨gx, 5, none⟩ = some (.int .i64 Fx)) (((try dsimp only); refine ⟨?_, ?_, ?_, ?_, ?_, ?_⟩ <;> (repeat (first | (with_reducible exact Q0.out _ D.lq.below) | (with_reducible exact Q0.out _ D0.lq.below) | (with_reducible exact Q1.out _ D.lq.below) | (with_reducible exact Q1.out _ D0.lq.below) | (with_reducible exact Q2.out _ D.lq.below) | (with_reducible exact Q2.out _ D0.lq.below) | (with_reducible exact Q3.out _ D.lq.below) | (with_reducible exact Q3.out _ D0.lq.below) | (with_reducible exact Q4.out _ D.lq.below) | (with_reducible exact Q4.out _ D0.lq.below) | (with_reducible exact Q5.out _ D.lq.below) | (with_reducible exact Q5.out _ D0.lq.below) | (with_reducible refine c_alloc _ ?_) | (with_reducible refine c_drew ?_) | (with_reducible refine c_set ?_ (by assumption) ?_) | omega)))) (first | (go_at_call 27; (with_reducible refine (G16.out _).mono ?_); rintro e9 wh ⟨vh, rfl, ii, be⟩; obtain ⟨Ao, co, Bo, do9, rfl, ia, ib⟩:=ii.form; (first | (replace D:=D.step be) | (replace D:=(D.boxMI hmd false none 0 0 0 false none 0 0 0).step be) | (replace D:=(D.boxI false none 0 0 0 false none 0 0 0).step be)); have hz:=be.size; (try simp at hz); replace D:=(D.n ib).n ia; (try (obtain ⟨x00,x01,x02,x03,x04,x05⟩:=D.lq.b0.a6; obtain ⟨y00,y01,y02,y03,y04,y05⟩:=D.lq.b0.f6)); (try obtain ⟨na, nb, nc, nd, nl⟩:=D.n0)) | (go_at_call 29; (with_reducible refine (GMu16.out _ _ _ ?_ ?_ ?_).mono ?_); (· (first | (with_reducible refine isI_n (D.getN ?_) (D.getN ?_) <;> (repeat (first | (with_reducible exact mS) | apply mT))) | (with_reducible refine isI_n ((D.boxI false none 0 0 0 false none 0 0 0).getN ?_) ((D.boxI false none 0 0 0 false none 0 0 0).getN ?_) <;> (repeat (first | (with_reducible exact mS) | apply mT))) | (with_reducible refine isI_n ((D0.boxI false none 0 0 0 false none 0 0 0).drew.getN ?_) ((D0.boxI false none 0 0 0 false none 0 0 0).drew.getN ?_) <;> (repeat (first | (with_reducible exact mS) | apply mT))))); (· (first | (with_reducible refine isI_n (D.getN ?_) (D.getN ?_) <;> (repeat (first | (with_reducible exact mS) | apply mT))) | (with_reducible refine isI_n ((D.boxI false none 0 0 0 false none 0 0 0).getN ?_) ((D.boxI false none 0 0 0 false none 0 0 0).getN ?_) <;> (repeat (first | (with_reducible exact mS) | apply mT))) | (with_reducible refine isI_n ((D0.boxI false none 0 0 0 false none 0 0 0).drew.getN ?_) ((D0.boxI false none 0 0 0 false none 0 0 0).drew.getN ?_) <;> (repeat (first | (with_reducible exact mS) | apply mT))))); (· (first | (with_reducible exact HVW.out _ D.lq.below) | (with_reducible exact HVW.out _ (D.boxI false none 0 0 0 false none 0 0 0).lq.below) | (with_reducible exact HVW.out _ (D0.boxI false none 0 0 0 false none 0 0 0).drew.lq.below))); rintro e9 wh ⟨vh, rfl, ii, be⟩; obtain ⟨Am, cm9, Bm, dm9, rfl, ia, ib⟩:=ii.form; (first | (replace D:=D.step be) | (replace D:=(D.boxMI hmd false none 0 0 0 false none 0 0 0).step be) | (replace D:=(D.boxI false none 0 0 0 false none 0 0 0).step be)); have hz:=be.size; (try simp at hz); replace D:=(D.n ib).n ia; (try (obtain ⟨x00,x01,x02,x03,x04,x05⟩:=D.lq.b0.a6; obtain ⟨y00,y01,y02,y03,y04,y05⟩:=D.lq.b0.f6)); (try obtain ⟨na, nb, nc, nd, nl⟩:=D.n0)))
   all_goals
    go_wp2_with fail
    go_meet
    refine ⟨rfl, ?_⟩
    first
    | ((with_reducible refine made1i_a D ?_ ?_) <;> (repeat (first | (with_reducible exact mS) | apply mT)))
    | ((with_reducible refine made1i_b D ?_ ?_) <;> (repeat (first | (with_reducible exact mS) | apply mT)))
  case rest =>
   obtain ⟨rfl, gu, A7, c7, B7, d7, rfl, hg9, bw, hb9, q1, q2⟩:=hcut
   have L:=(((LL.out.step bw).n q2).n q1).b hb9
   have hl_gu:=hg9
   clear D D0 hmd LL hb9 q1 q2 bw hg9 HVW Q0 Q1 Q2 Q3 Q4 Q5 hc0
   generalize wc = wd7 at *
   (try go_wp2_with fail)
   obtain ⟨⟨ex2, fx2, zax2, zbx2, lex2, tix2⟩, ⟨hMy, hEy⟩, hNy, hFy⟩:=Hx2.out
   obtain ⟨p1, p2, p3, p4⟩:=gr16 (k:=k) zax2 (by have:=HBK.out; omega) (by have:=HBK.out; omega)
   obtain ⟨q1, q2, q3, q4⟩:=gr16 (k:=k) zbx2 (by have:=HBK.out; omega) (by have:=HBK.out; omega)
   rw [hMy] at p1
   rw [hEy] at p2
   rw [hMy, hEy] at p3 p4
   rw [hNy] at q1
   rw [hFy] at q2
   rw [hNy, hFy] at q3 q4
   clear hMy hEy hNy hFy
   have hle9 : x2 ≤ y2:=lex2
   obtain ⟨f2, f3, f5⟩:=H4.out
   have bk:=HBK.out
   have gm:=fun x y W h i (hW : Below w.heap.size w W) => amul_any M4 E4 M4 E4 My Ey Ny Fy (k : Int) x y W h i (by omega) (by omega) (by omega) (by omega) (by omega) (by omega) (by omega) (by omega) (by rw [dcm_self]; omega) ((dcm_le _ _ _ _).2 (by rw [p4, q4]; exact (dq_le_iff _ _ _).2 hle9)) (by omega) (by omega) (HT.out W hW)
   have hmg:=mul_grid (c:=4) (by omega) (by omega) hle9 zax2 zbx2 (show k ≤ 400 by omega) p4 q4 f5
   simp only [hmg] at gm
   have zAv4:=ab_times (c:=4) (by decide) zax2
   have zBv4:=ab_times (c:=4) (by decide) zbx2
   obtain ⟨Mv, hMv⟩:=nm9 (mkM (4 * x2) (-(k : Int)))
   rw [hMv] at gm
   obtain ⟨Ev, hEv⟩:=nm9 (mkE (4 * x2) (-(k : Int)))
   rw [hEv] at gm
   obtain ⟨Nv, hNv⟩:=nm9 (mkM (4 * y2) (-(k : Int)))
   rw [hNv] at gm
   obtain ⟨Fv, hFv⟩:=nm9 (mkE (4 * y2) (-(k : Int)))
   rw [hFv] at gm
   have Hv4:=Hd9 (And.intro (And.intro ex2 (And.intro fx2 hle9)) (And.intro (And.intro zAv4 zBv4) (And.intro (And.intro hMv hEv) (And.intro hNv hFv))))
   have GMv4:=Hd9 gm
   clear gm hmg p1 p2 p3 p4 q1 q2 q3 q4 f2 f3 f5 bk hle9 ex2 fx2 zax2 zbx2 zAv4 zBv4 hMv hEv hNv hFv lex2 tix2
   (try go_wp2_with fail)
   obtain ⟨V, hV, L9⟩:=L.name
   rw [hV]
   clear hV L
   have L:=L9
   clear L9
   have Q0:=Hd9 (fun Z (hZ : Below V.heap.size V Z) => (L.tl.b0.mono hZ).c60)
   have Q1:=Hd9 (fun Z (hZ : Below V.heap.size V Z) => (L.tl.b0.mono hZ).c61)
   have Q2:=Hd9 (fun Z (hZ : Below V.heap.size V Z) => (L.tl.b0.mono hZ).c62)
   have Q3:=Hd9 (fun Z (hZ : Below V.heap.size V Z) => (L.tl.b0.mono hZ).c63)
   have Q4:=Hd9 (fun Z (hZ : Below V.heap.size V Z) => (L.tl.b0.mono hZ).c64)
   have Q5:=Hd9 (fun Z (hZ : Below V.heap.size V Z) => (L.tl.b0.mono hZ).c65)
   have hb0:=L.tl.b0.lt
   have D0 : Dq V V [(.slice A6 (zl My) c6, (My : Int).natAbs), (.slice B6 (zl Ny) d6, (Ny : Int).natAbs)] [] [] []:=⟨(((Lq.mk0 V).n (L.getN (v:=.slice B6 (zl Ny) d6) (x:=(Ny : Int).natAbs) (by simp))).n (L.getN (v:=.slice A6 (zl My) c6) (x:=(My : Int).natAbs) (by simp))), List.nodup_nil, fun p hp => by cases hp⟩
   have D:=D0.drew
   have hVw:=L.below.size
   have HVW:=Hd9 (fun Z (hZ : Below V.heap.size V Z) => L.below.trans (hZ.mono hVw))
   have LL:=Hd9 L
   clear L
   obtain ⟨K, hK⟩:=nm9 (V.heap.size)
   have hz0 : K ≤ V.heap.size:=by omega
   have hmd : V.drew.heap.size = K:=hK
   have hc0 : gy < K:=by omega
   go_cut [15, 16] from 58 to 64 (fun s0 s1 wx => s1 = .int .i64 0 ∧ Made1I V Mv Ev Nv Fv s0 wx)
   case first =>
    go_region_held3 (fun w' => w'.cell? ⟨gy, 0, none⟩ = some (.bool (ng My)) ∧ w'.cell? ⟨gy, 1, none⟩ = some (.slice A6 (zl My) c6) ∧ w'.cell? ⟨gy, 2, none⟩ = some (.int .i64 Ey) ∧ w'.cell? ⟨gy, 3, none⟩ = some (.bool (ng Ny)) ∧ w'.cell? ⟨gy, 4, none⟩ = some (.slice B6 (zl Ny) d6) ∧ w'.cell? ⟨gy, 5, none⟩ = some (.int .i64 Fy)) (((try dsimp only); refine ⟨?_, ?_, ?_, ?_, ?_, ?_⟩ <;> (repeat (first | (with_reducible exact Q0.out _ D.lq.below) | (with_reducible exact Q0.out _ D0.lq.below) | (with_reducible exact Q1.out _ D.lq.below) | (with_reducible exact Q1.out _ D0.lq.below) | (with_reducible exact Q2.out _ D.lq.below) | (with_reducible exact Q2.out _ D0.lq.below) | (with_reducible exact Q3.out _ D.lq.below) | (with_reducible exact Q3.out _ D0.lq.below) | (with_reducible exact Q4.out _ D.lq.below) | (with_reducible exact Q4.out _ D0.lq.below) | (with_reducible exact Q5.out _ D.lq.below) | (with_reducible exact Q5.out _ D0.lq.below) | (with_reducible refine c_alloc _ ?_) | (with_reducible refine c_drew ?_) | (with_reducible refine c_set ?_ (by assumption) ?_) | omega)))) (first | (go_at_call 27; (with_reducible refine (G4.out _).mono ?_); rintro e9 wh ⟨vh, rfl, ii, be⟩; obtain ⟨Ao, co, Bo, do9, rfl, ia, ib⟩:=ii.form; (first | (replace D:=D.step be) | (replace D:=(D.boxMI hmd false none 0 0 0 false none 0 0 0).step be) | (replace D:=(D.boxI false none 0 0 0 false none 0 0 0).step be)); have hz:=be.size; (try simp at hz); replace D:=(D.n ib).n ia; (try (obtain ⟨x00,x01,x02,x03,x04,x05⟩:=D.lq.b0.a6; obtain ⟨y00,y01,y02,y03,y04,y05⟩:=D.lq.b0.f6)); (try obtain ⟨na, nb, nc, nd, nl⟩:=D.n0)) | (go_at_call 29; (with_reducible refine (GMv4.out _ _ _ ?_ ?_ ?_).mono ?_); (· (first | (with_reducible refine isI_n (D.getN ?_) (D.getN ?_) <;> (repeat (first | (with_reducible exact mS) | apply mT))) | (with_reducible refine isI_n ((D.boxI false none 0 0 0 false none 0 0 0).getN ?_) ((D.boxI false none 0 0 0 false none 0 0 0).getN ?_) <;> (repeat (first | (with_reducible exact mS) | apply mT))) | (with_reducible refine isI_n ((D0.boxI false none 0 0 0 false none 0 0 0).drew.getN ?_) ((D0.boxI false none 0 0 0 false none 0 0 0).drew.getN ?_) <;> (repeat (first | (with_reducible exact mS) | apply mT))))); (· (first | (with_reducible refine isI_n (D.getN ?_) (D.getN ?_) <;> (repeat (first | (with_reducible exact mS) | apply mT))) | (with_reducible refine isI_n ((D.boxI false none 0 0 0 false none 0 0 0).getN ?_) ((D.boxI false none 0 0 0 false none 0 0 0).getN ?_) <;> (repeat (first | (with_reducible exact mS) | apply mT))) | (with_reducible refine isI_n ((D0.boxI false none 0 0 0 false none 0 0 0).drew.getN ?_) ((D0.boxI false none 0 0 0 false none 0 0 0).drew.getN ?_) <;> (repeat (first | (with_reducible exact mS) | apply mT))))); (· (first | (with_reducible exact HVW.out _ D.lq.below) | (with_reducible exact HVW.out _ (D.boxI false none 0 0 0 false none 0 0 0).lq.below) | (with_reducible exact HVW.out _ (D0.boxI false none 0 0 0 false none 0 0 0).drew.lq.below))); rintro e9 wh ⟨vh, rfl, ii, be⟩; obtain ⟨Am, cm9, Bm, dm9, rfl, ia, ib⟩:=ii.form; (first | (replace D:=D.step be) | (replace D:=(D.boxMI hmd false none 0 0 0 false none 0 0 0).step be) | (replace D:=(D.boxI false none 0 0 0 false none 0 0 0).step be)); have hz:=be.size; (try simp at hz); replace D:=(D.n ib).n ia; (try (obtain ⟨x00,x01,x02,x03,x04,x05⟩:=D.lq.b0.a6; obtain ⟨y00,y01,y02,y03,y04,y05⟩:=D.lq.b0.f6)); (try obtain ⟨na, nb, nc, nd, nl⟩:=D.n0)))
    all_goals
     go_wp2_with fail
     go_meet
     refine ⟨rfl, ?_⟩
     first
     | ((with_reducible refine made1i_a D ?_ ?_) <;> (repeat (first | (with_reducible exact mS) | apply mT)))
     | ((with_reducible refine made1i_b D ?_ ?_) <;> (repeat (first | (with_reducible exact mS) | apply mT)))
   case rest =>
    obtain ⟨rfl, gv, A8, c8, B8, d8, rfl, hg9, bw, hb9, q1, q2⟩:=hcut
    have L:=(((LL.out.step bw).n q2).n q1).b hb9
    have hl_gv:=hg9
    clear D D0 hmd LL hb9 q1 q2 bw hg9 HVW Q0 Q1 Q2 Q3 Q4 Q5 hc0
    generalize wc = wd8 at *
    obtain ⟨⟨ex, fx, lx⟩, ⟨zu1, zu2⟩, ⟨hMu, hEu⟩, hNu, hFu⟩:=Hu16.out
    obtain ⟨⟨ey, fy, ly⟩, ⟨zv1, zv2⟩, ⟨hMv, hEv⟩, hNv, hFv⟩:=Hv4.out
    have bk:=HBK.out
    obtain ⟨p1, p2, p3, p4⟩:=gr16 (k:=k) zu1 (by omega) (by omega)
    obtain ⟨q1, q2, q3, q4⟩:=gr16 (k:=k) zu2 (by omega) (by omega)
    obtain ⟨r1, r2, r3, r4⟩:=gr16 (k:=k) zv1 (by omega) (by omega)
    obtain ⟨s1, s2, s3, s4⟩:=gr16 (k:=k) zv2 (by omega) (by omega)
    rw [hMu] at p1
    rw [hEu] at p2
    rw [hMu, hEu] at p4
    rw [hNu] at q1
    rw [hFu] at q2
    rw [hNu, hFu] at q4
    rw [hMv] at r1
    rw [hEv] at r2
    rw [hMv, hEv] at r4
    rw [hNv] at s1
    rw [hFv] at s2
    rw [hNv, hFv] at s4
    have gm:=fun x y W h i (hW : Below w.heap.size w W) => asub_any Mu Eu Nu Fu Mv Ev Nv Fv (k : Int) x y W h i (by omega) (by omega) (by omega) (by omega) (by omega) (by omega) (by omega) (by omega) ((dcm_le _ _ _ _).2 (by rw [p4, q4]; exact (dq_le_iff _ _ _).2 (by omega))) ((dcm_le _ _ _ _).2 (by rw [r4, s4]; exact (dq_le_iff _ _ _).2 (by omega))) (by omega) (by omega) (HT.out W hW)
    rw [p4, q4, r4, s4, ← dq_sub9, ← dq_sub9] at gm
    have zm1 : AbP (16 * x - 4 * y2) (k + 31):=by rw [Int.sub_eq_add_neg]; exact zu1.add zv2.neg
    have zm2 : AbP (16 * y - 4 * x2) (k + 31):=by rw [Int.sub_eq_add_neg]; exact zu2.add zv1.neg
    have hmg:=en_grid (k:=k) (zm1.up (by omega)) (zm2.up (by omega)) (show 16 * x - 4 * y2 ≤ 16 * y - 4 * x2 by omega) (by omega)
    simp only [hmg] at gm
    have HF:=Hd9 (And.intro (mach_lo ex.1 fy.2 HC.out) (mach_hi fx.2 ey.1 HC.out))
    clear hmg p1 p2 p3 p4 q1 q2 q3 q4 r1 r2 r3 r4 s1 s2 s3 s4 ex fx lx zu1 zu2 hMu hEu hNu hFu ey fy ly zv1 zv2 hMv hEv hNv hFv Hu16 Hv4
    obtain ⟨U, hU⟩:=nm9 (16 * x - 4 * y2)
    obtain ⟨V, hV⟩:=nm9 (16 * y - 4 * x2)
    rw [hU] at gm zm1 HF
    rw [hV] at gm zm2 HF
    obtain ⟨p1, p2, p3, p4⟩:=gr16 (k:=k) zm1 (by omega) (by omega)
    obtain ⟨q1, q2, q3, q4⟩:=gr16 (k:=k) zm2 (by omega) (by omega)
    obtain ⟨Mm, hMm⟩:=nm9 (mkM U (-(k : Int)))
    rw [hMm] at gm p1 p3 p4
    clear hMm
    obtain ⟨Em, hEm⟩:=nm9 (mkE U (-(k : Int)))
    rw [hEm] at gm p2 p3 p4
    clear hEm
    obtain ⟨Nm, hNm⟩:=nm9 (mkM V (-(k : Int)))
    rw [hNm] at gm q1 q3 q4
    clear hNm
    obtain ⟨Fm, hFm⟩:=nm9 (mkE V (-(k : Int)))
    rw [hFm] at gm q2 q3 q4
    clear hFm
    obtain ⟨x1, x2', x4⟩:=HX.out
    obtain ⟨y1, y2', y4⟩:=HY.out
    obtain ⟨⟨ea, fa, la⟩, ⟨zb1, zb2⟩, ⟨hMb, hEb⟩, hNb, hFb⟩:=Hb4.out
    obtain ⟨r1, r2, r3, r4⟩:=gr16 (k:=k) zb1 (by omega) (by omega)
    obtain ⟨s1, s2, s3, s4⟩:=gr16 (k:=k) zb2 (by omega) (by omega)
    rw [hMb] at r1
    rw [hEb] at r2
    rw [hMb, hEb] at r4
    rw [hNb] at s1
    rw [hFb] at s2
    rw [hNb, hFb] at s4
    rw [HO.out] at ea fa
    have gc:=fun v u W h k9 => r10cmp_any Mb Eb Nb Fb ML EL MH EH v u W h k9 (by omega) (by omega) (by omega) (by omega) (by omega) (by omega) (by omega) (by omega)
    rw [icm_meet16 (by rw [x4, s4]; exact four_hi fa.2 HC.out) (by rw [r4, y4]; exact four_lo ea.1 HC.out)] at gc
    have gd:=fun v u W h k9 => r10cmp_any Mm Em Nm Fm ML EL MH EH v u W h k9 (by omega) (by omega) (by omega) (by omega) (by omega) (by omega) (by omega) (by omega)
    rw [icm_meet16 (by rw [x4, q4]; exact HF.out.2) (by rw [p4, y4]; exact HF.out.1)] at gd
    have GM:=Hd9 gm
    have GC:=Hd9 gc
    have GD:=Hd9 gd
    clear gm gc gd p1 p2 p3 p4 q1 q2 q3 q4 r1 r2 r3 r4 s1 s2 s3 s4 x1 x2' x4 y1 y2' y4 ea fa la zb1 zb2 hMb hEb hNb hFb bk hU hV zm1 zm2 Hb4
    obtain ⟨c00,c01,c02,c03,c04,c05⟩:=L.b0.a6
    obtain ⟨c10,c11,c12,c13,c14,c15⟩:=L.tl.b0.a6
    (try go_wp2_with fail)
    refine (GM.out _ _ _ (isI_n (m:=Mu) (e:=Eu) (n:=Nu) (f:=Fu) (s:=.slice A7 (zl Mu) c7) (t:=.slice B7 (zl Nu) d7) (L.getN (by simp)) (L.getN (by simp))) (isI_n (m:=Mv) (e:=Ev) (n:=Nv) (f:=Fv) (s:=.slice A8 (zl Mv) c8) (t:=.slice B8 (zl Nv) d8) (L.getN (by simp)) (L.getN (by simp))) L.below).mono ?_
    rintro e w10 ⟨v9, rfl, ii, be⟩
    clear c00 c01 c02 c03 c04 c05 c10 c11 c12 c13 c14 c15
    obtain ⟨A9, c9, B9, d9, rfl, ia, ib⟩:=ii.form
    replace L:=((L.step be).n ib).n ia
    clear be ii ia ib
    have hl9:=L.b0.lt
    replace L:=L.varI w10.heap.size rfl (ng Mm) A9 (zl Mm) c9 Em (ng Nm) B9 (zl Nm) d9 Fm
    obtain ⟨c00,c01,c02,c03,c04,c05⟩:=L.b0.a6
    obtain ⟨c50,c51,c52,c53,c54,c55⟩:=L.tl.tl.tl.tl.tl.b0.a6
    obtain ⟨c70,c71,c72,c73,c74,c75⟩:=L.tl.tl.tl.tl.tl.tl.tl.b0.a6
    (try go_wp2_with fail)
    clear c00 c01 c02 c03 c04 c05 c50 c51 c52 c53 c54 c55 c70 c71 c72 c73 c74 c75
    obtain ⟨gm, hgm⟩:=nm9 (w10.heap.size)
    rw [hgm] at L hl9 ⊢
    clear hgm
    have hl_gm:=hl9
    clear hl9
    refine (GC.out _ _ _ (isI_n (m:=Mb) (e:=Eb) (n:=Nb) (f:=Fb) (s:=.slice A4 (zl Mb) c4) (t:=.slice B4 (zl Nb) d4) (L.getN (by simp)) (L.getN (by simp))) (isI_n (m:=ML) (e:=EL) (n:=MH) (f:=EH) (s:=.slice A1 (zl ML) c1) (t:=.slice B1 (zl MH) d1) (L.getN (by simp)) (L.getN (by simp)))).mono ?_
    rintro e w11 ⟨rfl, be⟩
    replace L:=L.step be
    clear be
    obtain ⟨c00,c01,c02,c03,c04,c05⟩:=L.b0.a6
    obtain ⟨c70,c71,c72,c73,c74,c75⟩:=L.tl.tl.tl.tl.tl.tl.tl.b0.a6
    (try go_wp2_with fail)
    refine (GD.out _ _ _ (isI_n (m:=Mm) (e:=Em) (n:=Nm) (f:=Fm) (s:=.slice A9 (zl Mm) c9) (t:=.slice B9 (zl Nm) d9) (L.getN (by simp)) (L.getN (by simp))) (isI_n (m:=ML) (e:=EL) (n:=MH) (f:=EH) (s:=.slice A1 (zl ML) c1) (t:=.slice B1 (zl MH) d1) (L.getN (by simp)) (L.getN (by simp)))).mono ?_
    rintro e w12 ⟨rfl, be⟩
    clear c00 c01 c02 c03 c04 c05 c70 c71 c72 c73 c74 c75
    replace L:=L.step be
    clear be
    (try go_wp2_with fail)
    (try go_ret)
    exact ⟨rfl, L.below⟩

end Go.Proofs.YtmgbjldogggpcaaGreatDoor
