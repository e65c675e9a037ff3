/- The walk of CircularEnds: whatever the input, the law returns true and turns nothing that was there. -/
import Derived.Test.YtiddbhhhmeopeaaGreatDoorJE74
import Derived.Test.YtiddbhhhmeopeaaGreatDoorBaseDE7
import Derived.Test.YtiddbhhhmeopeaaGreatDoorBaseVE7
import Derived.Test.YtiddbhhhmeopeaaGreatDoorBaseWE7
import Derived.Test.YtiddbhhhmeopeaaGreatDoorBaseEE7
import Derived.Deep.RegionHeld3
import Derived.Deep.DrawnRows
import Derived.Deep.Cut
import Derived.Deep.CutRange
namespace Go.Proofs.YtiddbhhhmeopeaaGreatDoor
set_option maxHeartbeats 64000000
open Go.RowKit
set_option linter.unusedVariables false
set_option linter.unusedSimpArgs false
set_option maxRecDepth 100000
attribute [local go_sem ↓] Go.wp_at_zero Go.wp_at_succ

theorem v32 : dq 1 32 = 4294967296:=by decide +kernel
theorem mk_c32 : mkM 1 32 = 1 ∧ mkE 1 32 = 32 ∧ mkR 1 32 = 0:=by
 have hr : mkR 1 32 = 0:=by decide +kernel
 have hd : Dv 1 32:=Or.inr ⟨by decide, by decide +kernel⟩
 obtain ⟨a, b⟩:=dv_uniq (mk_ok hr) hd (dq_mk hr)
 exact ⟨a, b, hr⟩
theorem more32 {r : Nat} (h : r < 60) : mkR (addS 1 32 1 (-(r : Int))) (min 32 (-(r : Int))) = 0 ∧ zl (mkM (addS 1 32 1 (-(r : Int))) (min 32 (-(r : Int)))) ≤ 60 ∧
  (-3000 ≤ mkE (addS 1 32 1 (-(r : Int))) (min 32 (-(r : Int))) ∧ mkE (addS 1 32 1 (-(r : Int))) (min 32 (-(r : Int))) ≤ 3000) ∧
  Dv (mkM (addS 1 32 1 (-(r : Int))) (min 32 (-(r : Int)))) (mkE (addS 1 32 1 (-(r : Int))) (min 32 (-(r : Int)))) ∧
  4294967296 < dq (mkM (addS 1 32 1 (-(r : Int))) (min 32 (-(r : Int)))) (mkE (addS 1 32 1 (-(r : Int))) (min 32 (-(r : Int)))) ∧
  dq (mkM (addS 1 32 1 (-(r : Int))) (min 32 (-(r : Int)))) (mkE (addS 1 32 1 (-(r : Int))) (min 32 (-(r : Int)))) ≤ 4294967297:=by
 have z4 : zl 1 ≤ 1:=zl_sm (by decide)
 have hz:=zl_addS 1 32 1 (-(r : Int)) 60 (by omega) (by omega)
 have hr : mkR (addS 1 32 1 (-(r : Int))) (min 32 (-(r : Int))) = 0:=mk_fits2 (by omega) (by omega) (by omega)
 have e1:=zl_mk (addS 1 32 1 (-(r : Int))) (min 32 (-(r : Int)))
 have e2:=mkE_at hr (k:=12) (by omega)
 refine ⟨hr, by omega, by omega, mk_ok hr, ?_, ?_⟩ <;> rw [dq_mk hr, dq_add, v32]
 ·have:=dq_pos (-(r : Int))
  generalize dq 1 (-(r : Int)) = u at *
  clear hz e1 e2
  grind
 ·have:=dq_anti (a := -(r : Int)) (b:=0) (by omega)
  have v0 : dq 1 0 = 1:=by decide +kernel
  rw [v0] at this
  generalize dq 1 (-(r : Int)) = u at *
  clear hz e1 e2
  grind
theorem large17 {j : Nat} {m e n f M E : Int} (h : ArgY j m e n f) (hj : j ≤ 17) (t1 : topZ m e ≤ 8) (zM : zl M ≤ 60) (eM : -3000 ≤ E ∧ E ≤ 3000) (h1 : 4294967296 < dq M E) (h2 : dq M E ≤ 4294967297) :
  smallB m e M E = true ∧ Ab (dq m e) 4294967296 ∧ ¬ Ab (dq M E) 4294967296 ∧ smallB (-M) E m e = true ∧ ¬ Ab (dq (-M) E) 4294967296:=by
 obtain ⟨s1, s2⟩:=h.small (by omega)
 have v8 : dq 1 8 = 256:=by decide +kernel
 have v33 : dq 1 33 = 8589934592:=by decide +kernel
 obtain ⟨b1, b2⟩:=top_bd m e
 have b3:=dq_anti t1
 rw [v8] at b3
 have hn:=dq_neg M E
 have zm:=h.zm
 have zn : zl (-M) ≤ 60:=by rw [zl_neg]; exact zM
 have tM : topZ M E ≤ 33:=by
  refine (top_iff (by omega)).2 ?_
  rw [v33]
  generalize dq M E = p at *
  clear h
  constructor <;> grind
 have tN : topZ (-M) E ≤ 33:=by
  refine (top_iff (by omega)).2 ?_
  rw [v33, hn]
  generalize dq M E = p at *
  clear h
  constructor <;> grind
 have l1 : -256 ≤ dq m e:=by grind
 have l2 : dq m e ≤ 256:=by grind
 refine ⟨small14 (by omega) zM (by omega) (by omega) ((dcm_le _ _ _ _).2 ?_) (by omega) (by omega), ?_, ?_, small14 zn (by omega) (by omega) (by omega) ((dcm_le _ _ _ _).2 ?_) (by omega) (by omega), ?_⟩
 ·generalize dq M E = p at *
  generalize dq m e = q at *
  clear h
  grind
 ·unfold Ab
  generalize dq m e = q at *
  clear h
  grind
 ·unfold Ab
  generalize dq M E = p at *
  clear h
  grind
 ·rw [hn]
  generalize dq M E = p at *
  generalize dq m e = q at *
  clear h
  grind
 ·unfold Ab
  rw [hn]
  generalize dq M E = p at *
  clear h
  grind

theorem walk_CircularEnds (b0 : Bool) (a0 : Option Addr) (len0 cap0 : Nat) (z0 : List Nat) (f0 : Int) (bb0 : Bool) (aa0 : Option Addr) (ll0 cc0 : Nat) (zz0 : List Nat) (ff0 : Int) (a1 : Int) (a2 : Int) (w : World) (h0 : Sl w a0 len0 cap0 z0 ∧ -9223372036854775808 ≤ f0 ∧ f0 ≤ 9223372036854775807) (k0 : Sl w aa0 ll0 cc0 zz0 ∧ -9223372036854775808 ≤ ff0 ∧ ff0 ≤ 9223372036854775807) (h1 : -9223372036854775808 ≤ a1 ∧ a1 ≤ 9223372036854775807) (h2 : -9223372036854775808 ≤ a2 ∧ a2 ≤ 9223372036854775807) (hT : Tab w) :
  Calls Tryz.prog 8 #[.agg #[.bool b0, .slice a0 len0 cap0, .int .i64 f0, .bool bb0, .slice aa0 ll0 cc0, .int .i64 ff0], .int .i64 a1, .int .i64 a2] w (fun e w' => e = .returned (.bool true) ∧ Below w.heap.size w w'):=by
 have HT:=Hd9 (fun W (hW : Below w.heap.size w W) => hT.mono hW)
 clear hT
 go_enter Tryz.func8, Tryz.ntmps8
 go_wp2_with fail
 have L:=((Lq.mk0 w).varI (w.heap.size) (by simp) b0 a0 len0 cap0 f0 bb0 aa0 ll0 cc0 ff0)
 (try go_wp2_with fail)
 refine (awake17_any _ (HT.out _ L.below)).mono ?_
 rintro e9 w1 ⟨rfl, be⟩
 replace L:=L.step be
 clear be
 obtain ⟨c00,c01,c02,c03,c04,c05⟩:=L.b0.a6
 (try go_wp2_with fail)
 refine (s17arg_any b0 bb0 z0 zz0 a0 aa0 len0 cap0 ll0 cc0 f0 ff0 8 _ (h0.1.mono L.below) (k0.1.mono L.below) h0.2.1 h0.2.2 k0.2.1 k0.2.2 (by omega)).mono ?_
 rintro e9 w2 ⟨vx, ok, m, e, n, f, rfl, ii, be, hok⟩
 clear c00 c01 c02 c03 c04 c05
 obtain ⟨A, c, B, d, rfl, ia, ib⟩:=ii.form
 replace L:=((L.step be).n ib).n ia
 clear be ii ia ib
 have hl9:=L.b0.lt
 replace L:=L.varI w2.heap.size rfl (ng m) A (zl m) c e (ng n) B (zl n) d f
 cases ok
 ·go_wp2_with fail
  go_ret
  exact ⟨rfl, L.below⟩
 obtain ⟨j, hj, hr, t1, t2⟩:=hok rfl
 obtain ⟨r1, hr1⟩ : ∃ r : Nat, a2 % 5 = (r : Int):=⟨(a2 % 5).toNat, by omega⟩
 obtain ⟨r2, hr2⟩ : ∃ r : Nat, a1 % 60 = (r : Int):=⟨(a1 % 60).toNat, by omega⟩
 obtain ⟨r3, hr3⟩ : ∃ r : Nat, a2 % 40 = (r : Int):=⟨(a2 % 40).toNat, by omega⟩
 have o1:=fun W => mod_any a2 5 W (by omega) (by omega) h2.1 h2.2
 have o2:=fun W => mod_any a1 60 W (by omega) (by omega) h1.1 h1.2
 have o3:=fun W => mod_any a2 40 W (by omega) (by omega) h2.1 h2.2
 rw [hr1] at o1
 rw [hr2] at o2
 rw [hr3] at o3
 have br2 : r2 < 60:=by omega
 have br3 : r3 < 40:=by omega
 have MO1:=Hd9 o1
 have MO2:=Hd9 o2
 have MO3:=Hd9 o3
 obtain ⟨k1, hk1⟩:=nm9 (-1 - (r1 : Int))
 obtain ⟨k2, hk2⟩:=nm9 (4097 + (r1 : Int))
 obtain ⟨k3, hk3⟩:=nm9 (-(r2 : Int))
 have wq1 : IntKind.i64.wrap (-1 - (r1 : Int)) = k1:=by rw [IntKind.wrap_i64]; omega
 have wq2 : IntKind.i64.wrap (4097 + (r1 : Int)) = k2:=by rw [IntKind.wrap_i64]; omega
 have wq3 : IntKind.i64.wrap (-(r2 : Int)) = k3:=by rw [IntKind.wrap_i64]; omega
 have ok1 : okY k1 0 = false:=by
  unfold okY
  rw [decide_eq_false (show ¬ 0 ≤ k1 by omega)]
  rfl
 have ok2 : okY k2 0 = false:=by
  unfold okY
  rw [decide_eq_false (show ¬ k2 ≤ 4096 by omega), Bool.and_false]
 obtain ⟨o4, o5, o6⟩:=mk_one14 r2 (by omega)
 obtain ⟨o7, o8, o9⟩:=mk_c32
 have z1:=hr.zm
 have z2:=hr.zn
 obtain ⟨b1, b2⟩:=hr.small (by omega)
 have z11 : zl 1 ≤ 1:=zl_sm (by decide)
 obtain ⟨p1, p2, p3, p4, p5, p6⟩:=more32 br2
 rw [hk3] at p1 p2 p3 p4 p5 p6 o4 o5 o6
 obtain ⟨M, hM⟩:=nm9 (mkM (addS 1 32 1 k3) (min 32 k3))
 obtain ⟨E, hE⟩:=nm9 (mkE (addS 1 32 1 k3) (min 32 k3))
 rw [hM] at p2 p4 p5 p6
 rw [hE] at p3 p4 p5 p6
 obtain ⟨s1, s2, s3, s4, s5⟩:=large17 hr hj t1 p2 p3 p5 p6
 have zN : zl (-M) ≤ 60:=by rw [zl_neg]; exact p2
 have p7:=dv_neg9 p4
 obtain ⟨nM, hnM⟩:=nm9 (-M)
 have g9:=fun v W h => rneg8_any M E v W h (by omega)
 rw [hnM] at s4 s5 zN p7 g9
 have g1:=fun v W h => ysin_err m e n f k1 0 0 0 0 1 v W h (fun x W2 h2 _ => yimg_arg m e n f k1 0 x W2 h2 ok1)
 have g2:=fun v W h => ycos_err m e n f k2 0 0 0 0 1 v W h (fun x W2 h2 _ => yimg_arg m e n f k2 1 x W2 h2 ok2)
 have g3:=fun W => rof8_any 1 W (by omega) (by omega)
 have q10 : mkM 1 0 = 1 ∧ mkE 1 0 = 0:=by
  have:=mk_one14 0 (by omega)
  exact ⟨this.1, this.2.1⟩
 rw [q10.1, q10.2] at g3
 have g4:=fun v W h => rmake8_any 1 k3 v W h (by omega)
 rw [o4, o5, o6] at g4
 have g5:=fun v W h => rmake8_any 1 32 v W h (by omega)
 rw [o7, o8, o9] at g5
 have g6:=fun v u W h k9 => radd8_any 1 32 1 k3 v u W h k9 (by omega) (by omega) (by omega) (by omega)
 rw [p1, hM, hE] at g6
 have g7:=fun v W h (hW : Below w.heap.size w W) => ysin_err m e M E (r3 : Int) 0 0 0 0 3 v W h (fun x W2 h2 hb => yimg_hi m e M E 0 r3 x W2 h2 (by omega) (by omega) (by omega) (by omega) hr.vm p4 s1 s2 s3 (by omega) (HT.out W2 (hW.trans (hb.mono hW.size))))
 have gA:=fun v W h (hW : Below w.heap.size w W) => ycos_err nM E m e (r3 : Int) 0 0 0 0 3 v W h (fun x W2 h2 hb => yimg_lo nM E m e 1 r3 x W2 h2 (by omega) (by omega) (by omega) (by omega) p7 hr.vm s4 s5 (by omega) (HT.out W2 (hW.trans (hb.mono hW.size))))
 have zz0 : zl 0 ≤ 1:=zl_sm (by decide)
 have g8 : ∀ v u W, IsI W v 0 0 0 0 → IsI W u 0 0 0 0 → Calls Tryz.prog 36 #[v, u] W (RetB W true):=fun v u W h k9 => by
  have s:=r10same_any 0 0 0 0 0 0 0 0 v u W h k9 (by omega) (by omega) (by omega) (by omega) (by omega) (by omega) (by omega) (by omega)
  rwa [show ((decide ((0 : Int) = 0) && decide ((0 : Int) = 0)) && (decide ((0 : Int) = 0) && decide ((0 : Int) = 0))) = true from by simp] at s
 have G1:=Hd9 g1
 have G2:=Hd9 g2
 have G3:=Hd9 g3
 have G4:=Hd9 g4
 have G5:=Hd9 g5
 have G6:=Hd9 g6
 have G7:=Hd9 g7
 have G8:=Hd9 g8
 have G9:=Hd9 g9
 have GA:=Hd9 gA
 clear o1 o2 o3 o4 o5 o6 o7 o8 o9 hr1 hr2 hr3 hk1 hk2 hk3 br2 br3 ok1 ok2 z1 z2 b1 b2 z11 p1 p2 p3 p4 p5 p6 p7 hM hE hnM s1 s2 s3 s4 s5 zN hr hj t1 t2 hok q10 g1 g2 g3 g4 g5 g6 g7 g8 g9 gA zz0
 go_wp2_with fail
 obtain ⟨gx, hgx⟩:=nm9 (w2.heap.size)
 rw [hgx] at L hl9 ⊢
 clear hgx
 have hl_gx:=hl9
 clear hl9
 obtain ⟨V, hV, L9⟩:=L.name
 rw [hV]
 clear hV L
 have L:=L9
 clear L9
 have Q0:=Hd9 (fun Z (hZ : Below V.heap.size V Z) => (L.b0.mono hZ).c60)
 have Q1:=Hd9 (fun Z (hZ : Below V.heap.size V Z) => (L.b0.mono hZ).c61)
 have Q2:=Hd9 (fun Z (hZ : Below V.heap.size V Z) => (L.b0.mono hZ).c62)
 have Q3:=Hd9 (fun Z (hZ : Below V.heap.size V Z) => (L.b0.mono hZ).c63)
 have Q4:=Hd9 (fun Z (hZ : Below V.heap.size V Z) => (L.b0.mono hZ).c64)
 have Q5:=Hd9 (fun Z (hZ : Below V.heap.size V Z) => (L.b0.mono hZ).c65)
 have hb0:=L.b0.lt
 have D0 : Dq V V [(.slice A (zl m) c, (m : Int).natAbs), (.slice B (zl n) d, (n : Int).natAbs)] [] [] []:=⟨(((Lq.mk0 V).n (L.getN (v:=.slice B (zl n) d) (x:=(n : Int).natAbs) (by simp))).n (L.getN (v:=.slice A (zl m) c) (x:=(m : Int).natAbs) (by simp))), List.nodup_nil, fun p hp => by cases hp⟩
 have D:=D0.drew
 have hVw:=L.below.size
 have HVW:=Hd9 (fun Z (hZ : Below V.heap.size V Z) => L.below.trans (hZ.mono hVw))
 have LL:=Hd9 L
 clear L
 obtain ⟨K, hK⟩:=nm9 (V.heap.size)
 have hz0 : K ≤ V.heap.size:=by omega
 have hmd : V.drew.heap.size = K:=hK
 have hc0 : gx < K:=by omega
 go_cut [9, 10] from 31 to 38 (fun s0 s1 wx => s1 = .int .i64 1 ∧ Made1I V 0 0 0 0 s0 wx)
 case first =>
  go_region_held3 (fun w' => w'.cell? ⟨gx, 0, none⟩ = some (.bool (ng m)) ∧ w'.cell? ⟨gx, 1, none⟩ = some (.slice A (zl m) c) ∧ w'.cell? ⟨gx, 2, none⟩ = some (.int .i64 e) ∧ w'.cell? ⟨gx, 3, none⟩ = some (.bool (ng n)) ∧ w'.cell? ⟨gx, 4, none⟩ = some (.slice B (zl n) d) ∧ w'.cell? ⟨gx, 5, none⟩ = some (.int .i64 f)) (((try dsimp only); refine ⟨?_, ?_, ?_, ?_, ?_, ?_⟩ <;> (repeat (first | (with_reducible exact Q0.out _ D.lq.below) | (with_reducible exact Q0.out _ D0.lq.below) | (with_reducible exact Q1.out _ D.lq.below) | (with_reducible exact Q1.out _ D0.lq.below) | (with_reducible exact Q2.out _ D.lq.below) | (with_reducible exact Q2.out _ D0.lq.below) | (with_reducible exact Q3.out _ D.lq.below) | (with_reducible exact Q3.out _ D0.lq.below) | (with_reducible exact Q4.out _ D.lq.below) | (with_reducible exact Q4.out _ D0.lq.below) | (with_reducible exact Q5.out _ D.lq.below) | (with_reducible exact Q5.out _ D0.lq.below) | (with_reducible refine c_alloc _ ?_) | (with_reducible refine c_drew ?_) | (with_reducible refine c_set ?_ (by assumption) ?_) | omega)))) (first | (go_at_call 15; (with_reducible refine (MO1.out _).mono ?_); rintro e9 wh ⟨rfl, rfl⟩) | (go_at_call 33; (with_reducible refine (G1.out _ _ ?_).mono ?_); (· (first | (with_reducible refine isI_n (D.getN ?_) (D.getN ?_) <;> (repeat (first | (with_reducible exact mS) | apply mT))) | (with_reducible refine isI_n ((D.boxI false none 0 0 0 false none 0 0 0).getN ?_) ((D.boxI false none 0 0 0 false none 0 0 0).getN ?_) <;> (repeat (first | (with_reducible exact mS) | apply mT))) | (with_reducible refine isI_n ((D0.boxI false none 0 0 0 false none 0 0 0).drew.getN ?_) ((D0.boxI false none 0 0 0 false none 0 0 0).drew.getN ?_) <;> (repeat (first | (with_reducible exact mS) | apply mT))))); rintro e9 wh ⟨vh, rfl, ii, be⟩; obtain ⟨A1, c1, B1, d1, rfl, ia, ib⟩:=ii.form; (first | (replace D:=D.step be) | (replace D:=(D.boxMI hmd false none 0 0 0 false none 0 0 0).step be) | (replace D:=(D.boxI false none 0 0 0 false none 0 0 0).step be)); have hz:=be.size; (try simp at hz); replace D:=(D.n ib).n ia; (try (obtain ⟨x00,x01,x02,x03,x04,x05⟩:=D.lq.b0.a6; obtain ⟨y00,y01,y02,y03,y04,y05⟩:=D.lq.b0.f6)); (try obtain ⟨na, nb, nc, nd, nl⟩:=D.n0)))
  all_goals
   go_wp2_with fail
   go_meet
   refine ⟨rfl, ?_⟩
   first
   | ((with_reducible refine made1i_a D ?_ ?_) <;> (repeat (first | (with_reducible exact mS) | apply mT)))
   | ((with_reducible refine made1i_b D ?_ ?_) <;> (repeat (first | (with_reducible exact mS) | apply mT)))
 case rest =>
  obtain ⟨rfl, g1, A2, c2, B2, d2, rfl, hg9, bw, hb9, q1, q2⟩:=hcut
  have L:=(((LL.out.step bw).n q2).n q1).b hb9
  have hl_g1:=hg9
  clear D D0 hmd LL hb9 q1 q2 bw hg9 HVW Q0 Q1 Q2 Q3 Q4 Q5 hc0
  generalize wc = wd2 at *
  (try go_wp2_with fail)
  obtain ⟨V, hV, L9⟩:=L.name
  rw [hV]
  clear hV L
  have L:=L9
  clear L9
  have Q0:=Hd9 (fun Z (hZ : Below V.heap.size V Z) => (L.tl.b0.mono hZ).c60)
  have Q1:=Hd9 (fun Z (hZ : Below V.heap.size V Z) => (L.tl.b0.mono hZ).c61)
  have Q2:=Hd9 (fun Z (hZ : Below V.heap.size V Z) => (L.tl.b0.mono hZ).c62)
  have Q3:=Hd9 (fun Z (hZ : Below V.heap.size V Z) => (L.tl.b0.mono hZ).c63)
  have Q4:=Hd9 (fun Z (hZ : Below V.heap.size V Z) => (L.tl.b0.mono hZ).c64)
  have Q5:=Hd9 (fun Z (hZ : Below V.heap.size V Z) => (L.tl.b0.mono hZ).c65)
  have hb0:=L.tl.b0.lt
  have D0 : Dq V V [(.slice A (zl m) c, (m : Int).natAbs), (.slice B (zl n) d, (n : Int).natAbs)] [] [] []:=⟨(((Lq.mk0 V).n (L.getN (v:=.slice B (zl n) d) (x:=(n : Int).natAbs) (by simp))).n (L.getN (v:=.slice A (zl m) c) (x:=(m : Int).natAbs) (by simp))), List.nodup_nil, fun p hp => by cases hp⟩
  have D:=D0.drew
  have hVw:=L.below.size
  have HVW:=Hd9 (fun Z (hZ : Below V.heap.size V Z) => L.below.trans (hZ.mono hVw))
  have LL:=Hd9 L
  clear L
  obtain ⟨K, hK⟩:=nm9 (V.heap.size)
  have hz0 : K ≤ V.heap.size:=by omega
  have hmd : V.drew.heap.size = K:=hK
  have hc0 : gx < K:=by omega
  go_cut [11, 12] from 39 to 46 (fun s0 s1 wx => s1 = .int .i64 1 ∧ Made1I V 0 0 0 0 s0 wx)
  case first =>
   go_region_held3 (fun w' => w'.cell? ⟨gx, 0, none⟩ = some (.bool (ng m)) ∧ w'.cell? ⟨gx, 1, none⟩ = some (.slice A (zl m) c) ∧ w'.cell? ⟨gx, 2, none⟩ = some (.int .i64 e) ∧ w'.cell? ⟨gx, 3, none⟩ = some (.bool (ng n)) ∧ w'.cell? ⟨gx, 4, none⟩ = some (.slice B (zl n) d) ∧ w'.cell? ⟨gx, 5, none⟩ = some (.int .i64 f)) (((try dsimp only); refine ⟨?_, ?_, ?_, ?_, ?_, ?_⟩ <;> (repeat (first | (with_reducible exact Q0.out _ D.lq.below) | (with_reducible exact Q0.out _ D0.lq.below) | (with_reducible exact Q1.out _ D.lq.below) | (with_reducible exact Q1.out _ D0.lq.below) | (with_reducible exact Q2.out _ D.lq.below) | (with_reducible exact Q2.out _ D0.lq.below) | (with_reducible exact Q3.out _ D.lq.below) | (with_reducible exact Q3.out _ D0.lq.below) | (with_reducible exact Q4.out _ D.lq.below) | (with_reducible exact Q4.out _ D0.lq.below) | (with_reducible exact Q5.out _ D.lq.below) | (with_reducible exact Q5.out _ D0.lq.below) | (with_reducible refine c_alloc _ ?_) | (with_reducible refine c_drew ?_) | (with_reducible refine c_set ?_ (by assumption) ?_) | omega)))) (first | (go_at_call 15; (with_reducible refine (MO1.out _).mono ?_); rintro e9 wh ⟨rfl, rfl⟩) | (go_at_call 34; (with_reducible refine (G2.out _ _ ?_).mono ?_); (· (first | (with_reducible refine isI_n (D.getN ?_) (D.getN ?_) <;> (repeat (first | (with_reducible exact mS) | apply mT))) | (with_reducible refine isI_n ((D.boxI false none 0 0 0 false none 0 0 0).getN ?_) ((D.boxI false none 0 0 0 false none 0 0 0).getN ?_) <;> (repeat (first | (with_reducible exact mS) | apply mT))) | (with_reducible refine isI_n ((D0.boxI false none 0 0 0 false none 0 0 0).drew.getN ?_) ((D0.boxI false none 0 0 0 false none 0 0 0).drew.getN ?_) <;> (repeat (first | (with_reducible exact mS) | apply mT))))); rintro e9 wh ⟨vh, rfl, ii, be⟩; obtain ⟨A1, c1, B1, d1, rfl, ia, ib⟩:=ii.form; (first | (replace D:=D.step be) | (replace D:=(D.boxMI hmd false none 0 0 0 false none 0 0 0).step be) | (replace D:=(D.boxI false none 0 0 0 false none 0 0 0).step be)); have hz:=be.size; (try simp at hz); replace D:=(D.n ib).n ia; (try (obtain ⟨x00,x01,x02,x03,x04,x05⟩:=D.lq.b0.a6; obtain ⟨y00,y01,y02,y03,y04,y05⟩:=D.lq.b0.f6)); (try obtain ⟨na, nb, nc, nd, nl⟩:=D.n0)))
   all_goals
    go_wp2_with fail
    go_meet
    refine ⟨rfl, ?_⟩
    first
    | ((with_reducible refine made1i_a D ?_ ?_) <;> (repeat (first | (with_reducible exact mS) | apply mT)))
    | ((with_reducible refine made1i_b D ?_ ?_) <;> (repeat (first | (with_reducible exact mS) | apply mT)))
  case rest =>
   obtain ⟨rfl, g2, A3, c3, B3, d3, rfl, hg9, bw, hb9, q1, q2⟩:=hcut
   have L:=(((LL.out.step bw).n q2).n q1).b hb9
   have hl_g2:=hg9
   clear D D0 hmd LL hb9 q1 q2 bw hg9 HVW Q0 Q1 Q2 Q3 Q4 Q5 hc0
   generalize wc = wd3 at *
   (try go_wp2_with fail)
   refine (G3.out _).mono ?_
   rintro e w5 ⟨v9, rfl, iz, be⟩
   obtain ⟨A5, c5, rfl, _, in9⟩:=iz.form
   replace L:=(L.step be).n in9
   clear be iz in9
   have hfd1 : ∀ W, (Instr.field 26 (.agg #[.bool (ng 1), .slice A5 (zl 1) c5, .int .i64 0]) 0).run Tryz.prog W = .ok (.agg #[.bool (ng 1), .slice A5 (zl 1) c5]) W:=fun W => by kernel_rfl
   (try go_wp2_with fail)
   clear hfd1
   refine (G5.out _ _ (isZ_s (z:=1) (s:=.slice A5 (zl 1) c5) (L.getN (by simp)))).mono ?_
   rintro e w6 ⟨v9, rfl, iz, be⟩
   obtain ⟨A4, c4, rfl, _, in9⟩:=iz.form
   replace L:=(L.step be).n in9
   clear be iz in9
   have hl9:=L.b0.lt
   have hl8:=L.b0.lt
   replace L:=L.varD w6.heap.size rfl (ng 1) A4 (zl 1) c4 32
   go_wp2_with fail
   obtain ⟨gd, hgd⟩:=nm9 (w6.heap.size)
   rw [hgd] at L hl8 ⊢
   clear hgd
   have hl_gd:=hl8
   clear hl8
   refine (G3.out _).mono ?_
   rintro e w7 ⟨v9, rfl, iz, be⟩
   obtain ⟨A6, c6, rfl, _, in9⟩:=iz.form
   replace L:=(L.step be).n in9
   clear be iz in9
   have hfd2 : ∀ W, (Instr.field 26 (.agg #[.bool (ng 1), .slice A6 (zl 1) c6, .int .i64 0]) 0).run Tryz.prog W = .ok (.agg #[.bool (ng 1), .slice A6 (zl 1) c6]) W:=fun W => by kernel_rfl
   (try go_wp2_with fail)
   clear hfd2
   refine (MO2.out _).mono ?_
   rintro e9 w' ⟨rfl, rfl⟩
   (try go_wp2_with fail)
   refine (G4.out _ _ (isZ_s (z:=1) (s:=.slice A6 (zl 1) c6) (L.getN (by simp)))).mono ?_
   rintro e w8 ⟨v9, rfl, iz, be⟩
   obtain ⟨A7, c7, rfl, _, in9⟩:=iz.form
   replace L:=(L.step be).n in9
   clear be iz in9
   have hl9:=L.b0.lt
   have hl8:=L.b0.lt
   replace L:=L.varD w8.heap.size rfl (ng 1) A7 (zl 1) c7 k3
   obtain ⟨c00,c01,c02⟩:=L.b0.a3
   obtain ⟨c10,c11,c12⟩:=L.tl.b0.a3
   go_wp2_with fail
   clear c00 c01 c02 c10 c11 c12
   obtain ⟨ge, hge⟩:=nm9 (w8.heap.size)
   rw [hge] at L hl8 ⊢
   clear hge
   have hl_ge:=hl8
   clear hl8
   refine (G6.out _ _ _ (isD_n (m:=1) (e:=32) (s:=.slice A4 (zl 1) c4) (L.getN (by simp))) (isD_n (m:=1) (e:=k3) (s:=.slice A7 (zl 1) c7) (L.getN (by simp)))).mono ?_
   rintro e w9 ⟨v9, rfl, iz, be⟩
   obtain ⟨A9, c9, rfl, _, in9⟩:=iz.form
   replace L:=(L.step be).n in9
   clear be iz in9
   have L8:=L.pick [(gx, 28, #[.bool (ng m), .slice A (zl m) c, .int .i64 e, .bool (ng n), .slice B (zl n) d, .int .i64 f])] (by simp)
   clear L
   have L:=L8
   clear L8
   have hgx2:=L.b0.lt
   obtain ⟨c00,c01,c02,c03,c04,c05⟩:=L.b0.a6
   obtain ⟨f00,f01,f02,f03,f04,f05⟩:=L.b0.f6
   have P:=L.putHi (by omega) (by simp) (ng M) A9 (zl M) c9 E
   (try go_wp2_with fail)
   replace L:=P
   clear P
   clear c00 f00 c01 f01 c02 f02 c03 f03 c04 f04 c05 f05
   obtain ⟨V, hV, L9⟩:=L.name
   rw [hV]
   clear hV L
   have L:=L9
   clear L9
   have Q0:=Hd9 (fun Z (hZ : Below V.heap.size V Z) => (L.b0.mono hZ).c60)
   have Q1:=Hd9 (fun Z (hZ : Below V.heap.size V Z) => (L.b0.mono hZ).c61)
   have Q2:=Hd9 (fun Z (hZ : Below V.heap.size V Z) => (L.b0.mono hZ).c62)
   have Q3:=Hd9 (fun Z (hZ : Below V.heap.size V Z) => (L.b0.mono hZ).c63)
   have Q4:=Hd9 (fun Z (hZ : Below V.heap.size V Z) => (L.b0.mono hZ).c64)
   have Q5:=Hd9 (fun Z (hZ : Below V.heap.size V Z) => (L.b0.mono hZ).c65)
   have hb0:=L.b0.lt
   have D0 : Dq V V [(.slice A (zl m) c, (m : Int).natAbs), (.slice A9 (zl M) c9, (M : Int).natAbs)] [] [] []:=⟨(((Lq.mk0 V).n (L.getN (v:=.slice A9 (zl M) c9) (x:=(M : Int).natAbs) (by simp))).n (L.getN (v:=.slice A (zl m) c) (x:=(m : Int).natAbs) (by simp))), List.nodup_nil, fun p hp => by cases hp⟩
   have D:=D0.drew
   have hVw:=L.below.size
   have HVW:=Hd9 (fun Z (hZ : Below V.heap.size V Z) => L.below.trans (hZ.mono hVw))
   have LL:=Hd9 L
   clear L
   obtain ⟨K, hK⟩:=nm9 (V.heap.size)
   have hz0 : K ≤ V.heap.size:=by omega
   have hmd : V.drew.heap.size = K:=hK
   have hc0 : gx < K:=by omega
   go_cut [17, 18] from 69 to 75 (fun s0 s1 wx => s1 = .int .i64 3 ∧ Made1I V 0 0 0 0 s0 wx)
   case first =>
    go_region_held3 (fun w' => w'.cell? ⟨gx, 0, none⟩ = some (.bool (ng m)) ∧ w'.cell? ⟨gx, 1, none⟩ = some (.slice A (zl m) c) ∧ w'.cell? ⟨gx, 2, none⟩ = some (.int .i64 e) ∧ w'.cell? ⟨gx, 3, none⟩ = some (.bool (ng M)) ∧ w'.cell? ⟨gx, 4, none⟩ = some (.slice A9 (zl M) c9) ∧ w'.cell? ⟨gx, 5, none⟩ = some (.int .i64 E)) (((try dsimp only); refine ⟨?_, ?_, ?_, ?_, ?_, ?_⟩ <;> (repeat (first | (with_reducible exact Q0.out _ D.lq.below) | (with_reducible exact Q0.out _ D0.lq.below) | (with_reducible exact Q1.out _ D.lq.below) | (with_reducible exact Q1.out _ D0.lq.below) | (with_reducible exact Q2.out _ D.lq.below) | (with_reducible exact Q2.out _ D0.lq.below) | (with_reducible exact Q3.out _ D.lq.below) | (with_reducible exact Q3.out _ D0.lq.below) | (with_reducible exact Q4.out _ D.lq.below) | (with_reducible exact Q4.out _ D0.lq.below) | (with_reducible exact Q5.out _ D.lq.below) | (with_reducible exact Q5.out _ D0.lq.below) | (with_reducible refine c_alloc _ ?_) | (with_reducible refine c_drew ?_) | (with_reducible refine c_set ?_ (by assumption) ?_) | omega)))) (first | (go_at_call 15; (with_reducible refine (MO3.out _).mono ?_); rintro e9 wh ⟨rfl, rfl⟩) | (go_at_call 33; (with_reducible refine (G7.out _ _ ?_ ?_).mono ?_); (· (first | (with_reducible refine isI_n (D.getN ?_) (D.getN ?_) <;> (repeat (first | (with_reducible exact mS) | apply mT))) | (with_reducible refine isI_n ((D.boxI false none 0 0 0 false none 0 0 0).getN ?_) ((D.boxI false none 0 0 0 false none 0 0 0).getN ?_) <;> (repeat (first | (with_reducible exact mS) | apply mT))) | (with_reducible refine isI_n ((D0.boxI false none 0 0 0 false none 0 0 0).drew.getN ?_) ((D0.boxI false none 0 0 0 false none 0 0 0).drew.getN ?_) <;> (repeat (first | (with_reducible exact mS) | apply mT))))); (· (first | (with_reducible exact HVW.out _ D.lq.below) | (with_reducible exact HVW.out _ (D.boxI false none 0 0 0 false none 0 0 0).lq.below) | (with_reducible exact HVW.out _ (D0.boxI false none 0 0 0 false none 0 0 0).drew.lq.below))); rintro e9 wh ⟨vh, rfl, ii, be⟩; obtain ⟨A1, c1, B1, d1, rfl, ia, ib⟩:=ii.form; (first | (replace D:=D.step be) | (replace D:=(D.boxMI hmd false none 0 0 0 false none 0 0 0).step be) | (replace D:=(D.boxI false none 0 0 0 false none 0 0 0).step be)); have hz:=be.size; (try simp at hz); replace D:=(D.n ib).n ia; (try (obtain ⟨x00,x01,x02,x03,x04,x05⟩:=D.lq.b0.a6; obtain ⟨y00,y01,y02,y03,y04,y05⟩:=D.lq.b0.f6)); (try obtain ⟨na, nb, nc, nd, nl⟩:=D.n0)))
    all_goals
     go_wp2_with fail
     go_meet
     refine ⟨rfl, ?_⟩
     first
     | ((with_reducible refine made1i_a D ?_ ?_) <;> (repeat (first | (with_reducible exact mS) | apply mT)))
     | ((with_reducible refine made1i_b D ?_ ?_) <;> (repeat (first | (with_reducible exact mS) | apply mT)))
   case rest =>
    obtain ⟨rfl, gy, A4, c4, B4, d4, rfl, hg9, bw, hb9, q1, q2⟩:=hcut
    have L:=(((LL.out.step bw).n q2).n q1).b hb9
    have hl_gy:=hg9
    clear D D0 hmd LL hb9 q1 q2 bw hg9 HVW Q0 Q1 Q2 Q3 Q4 Q5 hc0
    generalize wc = wd9 at *
    (try go_wp2_with fail)
    obtain ⟨V, hV, L9⟩:=L.name
    rw [hV]
    clear hV L
    have L:=L9
    clear L9
    have Q0:=Hd9 (fun Z (hZ : Below V.heap.size V Z) => (L.tl.b0.mono hZ).c60)
    have Q1:=Hd9 (fun Z (hZ : Below V.heap.size V Z) => (L.tl.b0.mono hZ).c61)
    have Q2:=Hd9 (fun Z (hZ : Below V.heap.size V Z) => (L.tl.b0.mono hZ).c62)
    have Q3:=Hd9 (fun Z (hZ : Below V.heap.size V Z) => (L.tl.b0.mono hZ).c63)
    have Q4:=Hd9 (fun Z (hZ : Below V.heap.size V Z) => (L.tl.b0.mono hZ).c64)
    have Q5:=Hd9 (fun Z (hZ : Below V.heap.size V Z) => (L.tl.b0.mono hZ).c65)
    have hb0:=L.tl.b0.lt
    have D0 : Dq V V [(.slice A (zl m) c, (m : Int).natAbs), (.slice A9 (zl M) c9, (M : Int).natAbs)] [] [] []:=⟨(((Lq.mk0 V).n (L.getN (v:=.slice A9 (zl M) c9) (x:=(M : Int).natAbs) (by simp))).n (L.getN (v:=.slice A (zl m) c) (x:=(m : Int).natAbs) (by simp))), List.nodup_nil, fun p hp => by cases hp⟩
    have D:=D0.drew
    have hVw:=L.below.size
    have HVW:=Hd9 (fun Z (hZ : Below V.heap.size V Z) => L.below.trans (hZ.mono hVw))
    have LL:=Hd9 L
    clear L
    obtain ⟨K, hK⟩:=nm9 (V.heap.size)
    have hz0 : K ≤ V.heap.size:=by omega
    have hmd : V.drew.heap.size = K:=hK
    have hc0 : gx < K:=by omega
    go_cut [19] from 76 to 81 (fun s0 wx => Made1I V nM E m e s0 wx)
    case first =>
     go_region_held3 (fun w' => w'.cell? ⟨gx, 0, none⟩ = some (.bool (ng m)) ∧ w'.cell? ⟨gx, 1, none⟩ = some (.slice A (zl m) c) ∧ w'.cell? ⟨gx, 2, none⟩ = some (.int .i64 e) ∧ w'.cell? ⟨gx, 3, none⟩ = some (.bool (ng M)) ∧ w'.cell? ⟨gx, 4, none⟩ = some (.slice A9 (zl M) c9) ∧ w'.cell? ⟨gx, 5, none⟩ = some (.int .i64 E)) (((try dsimp only); refine ⟨?_, ?_, ?_, ?_, ?_, ?_⟩ <;> (repeat (first | (with_reducible exact Q0.out _ D.lq.below) | (with_reducible exact Q0.out _ D0.lq.below) | (with_reducible exact Q1.out _ D.lq.below) | (with_reducible exact Q1.out _ D0.lq.below) | (with_reducible exact Q2.out _ D.lq.below) | (with_reducible exact Q2.out _ D0.lq.below) | (with_reducible exact Q3.out _ D.lq.below) | (with_reducible exact Q3.out _ D0.lq.below) | (with_reducible exact Q4.out _ D.lq.below) | (with_reducible exact Q4.out _ D0.lq.below) | (with_reducible exact Q5.out _ D.lq.below) | (with_reducible exact Q5.out _ D0.lq.below) | (with_reducible refine c_alloc _ ?_) | (with_reducible refine c_drew ?_) | (with_reducible refine c_set ?_ (by assumption) ?_) | omega)))) (first | (go_at_call 35; (with_reducible refine (G9.out _ _ ?_).mono ?_); (· (first | (with_reducible refine isD_n (D.getN ?_); (repeat (first | (with_reducible exact mS) | apply mT))) | (with_reducible refine isD_n ((D.boxI false none 0 0 0 false none 0 0 0).getN ?_); (repeat (first | (with_reducible exact mS) | apply mT))) | (with_reducible refine isD_n ((D0.boxI false none 0 0 0 false none 0 0 0).drew.getN ?_); (repeat (first | (with_reducible exact mS) | apply mT))))); rintro e9 wh ⟨vh, rfl, id, be⟩; obtain ⟨A7, c7, rfl, _, in9⟩:=id.form; (first | (replace D:=D.step be) | (replace D:=(D.boxMI hmd false none 0 0 0 false none 0 0 0).step be) | (replace D:=(D.boxI false none 0 0 0 false none 0 0 0).step be)); have hz:=be.size; (try simp at hz); replace D:=D.n in9; (try (obtain ⟨x00,x01,x02,x03,x04,x05⟩:=D.lq.b0.a6; obtain ⟨y00,y01,y02,y03,y04,y05⟩:=D.lq.b0.f6)); (try obtain ⟨na, nb, nc, nd, nl⟩:=D.n0)))
     all_goals
      go_wp2_with fail
      go_meet
      first
      | ((with_reducible refine made1i_a D ?_ ?_) <;> (repeat (first | (with_reducible exact mS) | apply mT)))
      | ((with_reducible refine made1i_b D ?_ ?_) <;> (repeat (first | (with_reducible exact mS) | apply mT)))
    case rest =>
     obtain ⟨gn, A6, c6, B6, d6, rfl, hg9, bw, hb9, q1, q2⟩:=hcut
     have L:=(((LL.out.step bw).n q2).n q1).b hb9
     have hl_gn:=hg9
     clear D D0 hmd LL hb9 q1 q2 bw hg9 HVW Q0 Q1 Q2 Q3 Q4 Q5 hc0
     generalize wc = wd10 at *
     (try go_wp2_with fail)
     obtain ⟨V, hV, L9⟩:=L.name
     rw [hV]
     clear hV L
     have L:=L9
     clear L9
     have Q0:=Hd9 (fun Z (hZ : Below V.heap.size V Z) => (L.b0.mono hZ).c60)
     have Q1:=Hd9 (fun Z (hZ : Below V.heap.size V Z) => (L.b0.mono hZ).c61)
     have Q2:=Hd9 (fun Z (hZ : Below V.heap.size V Z) => (L.b0.mono hZ).c62)
     have Q3:=Hd9 (fun Z (hZ : Below V.heap.size V Z) => (L.b0.mono hZ).c63)
     have Q4:=Hd9 (fun Z (hZ : Below V.heap.size V Z) => (L.b0.mono hZ).c64)
     have Q5:=Hd9 (fun Z (hZ : Below V.heap.size V Z) => (L.b0.mono hZ).c65)
     have hb0:=L.b0.lt
     have D0 : Dq V V [(.slice A6 (zl nM) c6, (nM : Int).natAbs), (.slice B6 (zl m) d6, (m : Int).natAbs)] [] [] []:=⟨(((Lq.mk0 V).n (L.getN (v:=.slice B6 (zl m) d6) (x:=(m : Int).natAbs) (by simp))).n (L.getN (v:=.slice A6 (zl nM) c6) (x:=(nM : Int).natAbs) (by simp))), List.nodup_nil, fun p hp => by cases hp⟩
     have D:=D0.drew
     have hVw:=L.below.size
     have HVW:=Hd9 (fun Z (hZ : Below V.heap.size V Z) => L.below.trans (hZ.mono hVw))
     have LL:=Hd9 L
     clear L
     obtain ⟨K, hK⟩:=nm9 (V.heap.size)
     have hz0 : K ≤ V.heap.size:=by omega
     have hmd : V.drew.heap.size = K:=hK
     have hc0 : gn < K:=by omega
     go_cut [20, 21] from 82 to 88 (fun s0 s1 wx => s1 = .int .i64 3 ∧ Made1I V 0 0 0 0 s0 wx)
     case first =>
      go_region_held3 (fun w' => w'.cell? ⟨gn, 0, none⟩ = some (.bool (ng nM)) ∧ w'.cell? ⟨gn, 1, none⟩ = some (.slice A6 (zl nM) c6) ∧ w'.cell? ⟨gn, 2, none⟩ = some (.int .i64 E) ∧ w'.cell? ⟨gn, 3, none⟩ = some (.bool (ng m)) ∧ w'.cell? ⟨gn, 4, none⟩ = some (.slice B6 (zl m) d6) ∧ w'.cell? ⟨gn, 5, none⟩ = some (.int .i64 e)) (((try dsimp only); refine ⟨?_, ?_, ?_, ?_, ?_, ?_⟩ <;> (repeat (first | (with_reducible exact Q0.out _ D.lq.below) | (with_reducible exact Q0.out _ D0.lq.below) | (with_reducible exact Q1.out _ D.lq.below) | (with_reducible exact Q1.out _ D0.lq.below) | (with_reducible exact Q2.out _ D.lq.below) | (with_reducible exact Q2.out _ D0.lq.below) | (with_reducible exact Q3.out _ D.lq.below) | (with_reducible exact Q3.out _ D0.lq.below) | (with_reducible exact Q4.out _ D.lq.below) | (with_reducible exact Q4.out _ D0.lq.below) | (with_reducible exact Q5.out _ D.lq.below) | (with_reducible exact Q5.out _ D0.lq.below) | (with_reducible refine c_alloc _ ?_) | (with_reducible refine c_drew ?_) | (with_reducible refine c_set ?_ (by assumption) ?_) | omega)))) (first | (go_at_call 15; (with_reducible refine (MO3.out _).mono ?_); rintro e9 wh ⟨rfl, rfl⟩) | (go_at_call 34; (with_reducible refine (GA.out _ _ ?_ ?_).mono ?_); (· (first | (with_reducible refine isI_n (D.getN ?_) (D.getN ?_) <;> (repeat (first | (with_reducible exact mS) | apply mT))) | (with_reducible refine isI_n ((D.boxI false none 0 0 0 false none 0 0 0).getN ?_) ((D.boxI false none 0 0 0 false none 0 0 0).getN ?_) <;> (repeat (first | (with_reducible exact mS) | apply mT))) | (with_reducible refine isI_n ((D0.boxI false none 0 0 0 false none 0 0 0).drew.getN ?_) ((D0.boxI false none 0 0 0 false none 0 0 0).drew.getN ?_) <;> (repeat (first | (with_reducible exact mS) | apply mT))))); (· (first | (with_reducible exact HVW.out _ D.lq.below) | (with_reducible exact HVW.out _ (D.boxI false none 0 0 0 false none 0 0 0).lq.below) | (with_reducible exact HVW.out _ (D0.boxI false none 0 0 0 false none 0 0 0).drew.lq.below))); rintro e9 wh ⟨vh, rfl, ii, be⟩; obtain ⟨A1, c1, B1, d1, rfl, ia, ib⟩:=ii.form; (first | (replace D:=D.step be) | (replace D:=(D.boxMI hmd false none 0 0 0 false none 0 0 0).step be) | (replace D:=(D.boxI false none 0 0 0 false none 0 0 0).step be)); have hz:=be.size; (try simp at hz); replace D:=(D.n ib).n ia; (try (obtain ⟨x00,x01,x02,x03,x04,x05⟩:=D.lq.b0.a6; obtain ⟨y00,y01,y02,y03,y04,y05⟩:=D.lq.b0.f6)); (try obtain ⟨na, nb, nc, nd, nl⟩:=D.n0)))
      all_goals
       go_wp2_with fail
       go_meet
       refine ⟨rfl, ?_⟩
       first
       | ((with_reducible refine made1i_a D ?_ ?_) <;> (repeat (first | (with_reducible exact mS) | apply mT)))
       | ((with_reducible refine made1i_b D ?_ ?_) <;> (repeat (first | (with_reducible exact mS) | apply mT)))
     case rest =>
      obtain ⟨rfl, gq, A3, c3, B3, d3, rfl, hg9, bw, hb9, q1, q2⟩:=hcut
      have L:=(((LL.out.step bw).n q2).n q1).b hb9
      have hl_gq:=hg9
      clear D D0 hmd LL hb9 q1 q2 bw hg9 HVW Q0 Q1 Q2 Q3 Q4 Q5 hc0
      generalize wc = wd11 at *
      obtain ⟨c00,c01,c02,c03,c04,c05⟩:=L.b0.a6
      obtain ⟨c20,c21,c22,c23,c24,c25⟩:=L.tl.tl.b0.a6
      (try go_wp2_with fail)
      clear c00 c01 c02 c03 c04 c05 c20 c21 c22 c23 c24 c25
      refine (G8.out _ _ _ (isI_n (m:=0) (e:=0) (n:=0) (f:=0) (s:=.slice A4 (zl 0) c4) (t:=.slice B4 (zl 0) d4) (L.getN (by simp)) (L.getN (by simp))) (isI_zero _)).mono ?_
      rintro e9 wh ⟨rfl, be⟩
      replace L:=L.step be
      clear be
      obtain ⟨c00,c01,c02,c03,c04,c05⟩:=L.b0.a6
      (try go_wp2_with fail)
      clear c00 c01 c02 c03 c04 c05
      refine (G8.out _ _ _ (isI_n (m:=0) (e:=0) (n:=0) (f:=0) (s:=.slice A3 (zl 0) c3) (t:=.slice B3 (zl 0) d3) (L.getN (by simp)) (L.getN (by simp))) (isI_zero _)).mono ?_
      rintro e9 wh ⟨rfl, be⟩
      replace L:=L.step be
      (try go_wp2_with fail)
      (try go_ret)
      exact ⟨rfl, L.below⟩

end Go.Proofs.YtiddbhhhmeopeaaGreatDoor
