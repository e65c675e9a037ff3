/- The walk of ArctangentRecips: whatever the input, the law returns true and turns nothing that was there. -/
import Derived.Test.YtmgbjldogggpcaaGreatDoorJR3
import Derived.Test.YtmgbjldogggpcaaGreatDoorBaseFR
import Derived.Test.YtmgbjldogggpcaaGreatDoorBaseUR
import Derived.Deep.RegionHeld3
import Derived.Deep.DrawnRows
import Derived.Deep.Cut
import Derived.Deep.CutRange
namespace Go.Proofs.YtmgbjldogggpcaaGreatDoor
set_option maxHeartbeats 64000000
open Go.RowKit
set_option linter.unusedVariables false
set_option linter.unusedSimpArgs false
set_option maxRecDepth 100000
attribute [local go_sem ↓] Go.wp_at_zero Go.wp_at_succ

theorem plain16 (N0 N1 N2 : Int) : Plain #[.int .i64 N0, .int .i64 N1, .int .i64 N2]:=fun j x => by
 match j with
 | 0 => simp
 | 1 => simp
 | 2 => simp
 | j + 3 => simp
structure CutR (x : Rat) (p : Nat) (M E N F : Int) : Prop where
 v1 : Dv M E
 v2 : Dv N F
 z1 : zl M ≤ 10
 z2 : zl N ≤ 10
 e1 : -400 ≤ E ∧ E ≤ 400
 e2 : -400 ≤ F ∧ F ≤ 400
 lo : dq M E ≤ x
 hi : x ≤ dq N F
theorem cutR {x : Rat} {p : Nat} (h0 : 0 ≤ x) (h1 : x ≤ 1024) (hp : p ≤ 150) : (∀ W, RetEn W x x (p : Int) = RetIE W (enM x (p : Int)) (enE x (p : Int)) (upM x (p : Int)) (upE x (p : Int)) 0) ∧ CutR x p (enM x (p : Int)) (enE x (p : Int)) (upM x (p : Int)) (upE x (p : Int)):=by
 have hwk : workB (p : Int) = true:=by
  unfold workB
  rw [decide_eq_true (show (0 : Int) ≤ (p : Int) by omega), decide_eq_true (show (p : Int) ≤ 4096 by omega)]
  rfl
 obtain ⟨r2, r3, _⟩:=quo_bd (p:=p) h0 h1
 have z1:=r2.zl
 have z2:=r3.zl
 have t : ((p : Int)).toNat = p:=rfl
 refine ⟨fun W => RetEn.ok (lo:=x) (hi:=x) hwk (z:=3) (by rw [t]; omega) (by rw [t]; omega) (by omega) Rat.le_refl W, ?_⟩
 obtain ⟨a1, a2, a3, a4, a5⟩:=nx (x := -(p : Int)) r2 (by omega) (by omega)
 obtain ⟨b1, b2, b3, b4, b5⟩:=nx (x := -(p : Int)) r3 (by omega) (by omega)
 have c1:=cut_lo x (p : Int)
 have c2:=cut_lo (-x) (p : Int)
 unfold enM enE upM upE
 refine ⟨a4, b4, by omega, by omega, by omega, by omega, by rw [a5]; exact c1, ?_⟩
 rw [b5, dq_neg]
 generalize dq (cutQ (-x) (p : Int)) (-(p : Int)) = y at *
 clear a5 b5
 grind

theorem walk_ArctangentRecips (a0 : Int) (a1 : Int) (w : World) (h0 : -9223372036854775808 ≤ a0 ∧ a0 ≤ 9223372036854775807) (h1 : -9223372036854775808 ≤ a1 ∧ a1 ≤ 9223372036854775807) (hT : Tab w) :
  Calls Tryz.prog 9 #[.int .i64 a0, .int .i64 a1] w (fun e w' => e = .returned (.bool true) ∧ Below w.heap.size w w'):=by
 have HT:=Hd9 (fun W (hW : Below w.heap.size w W) => hT.mono hW)
 clear hT
 go_enter Tryz.func9, Tryz.ntmps9
 go_wp2_with fail
 have L:=(Lq.mk0 w)
 (try go_wp2_with fail)
 refine (awake16_any _ (HT.out _ L.below)).mono ?_
 rintro e9 w1 ⟨rfl, be⟩
 replace L:=L.step be
 clear be
 (try go_wp2_with fail)
 obtain ⟨k, hk⟩ : ∃ r : Nat, a1 % 120 = (r : Int):=⟨(a1 % 120).toNat, by omega⟩
 obtain ⟨r2, hr2⟩ : ∃ r : Nat, a0 % 300 = (r : Int):=⟨(a0 % 300).toNat, by omega⟩
 obtain ⟨r3, hr3⟩ : ∃ r : Nat, a0 % 3 = (r : Int):=⟨(a0 % 3).toNat, by omega⟩
 have o1:=fun W => mod_any a1 120 W (by omega) (by omega) h1.1 h1.2
 have o2:=fun W => mod_any a0 300 W (by omega) (by omega) h0.1 h0.2
 have o3:=fun W => mod_any a0 3 W (by omega) (by omega) h0.1 h0.2
 rw [hk] at o1
 rw [hr2] at o2
 rw [hr3] at o3
 obtain ⟨q2, hq2⟩:=nm9 (2 + (r2 : Int))
 obtain ⟨q3, hq3⟩:=nm9 (999999 + (r3 : Int))
 have w1 : IntKind.i64.wrap (2 + (r2 : Int)) = q2:=by rw [IntKind.wrap_i64]; omega
 have w2 : IntKind.i64.wrap (999999 + (r3 : Int)) = q3:=by rw [IntKind.wrap_i64]; omega
 have MO1:=Hd9 o1
 have MO2:=Hd9 o2
 have MO3:=Hd9 o3
 have HB:=Hd9 (show k < 120 ∧ (-9223372036854775808 ≤ a0 ∧ a0 ≤ 9223372036854775807) ∧ (-9223372036854775808 ≤ q2 ∧ q2 ≤ 9223372036854775807) ∧ (-9223372036854775808 ≤ q3 ∧ q3 ≤ 9223372036854775807) from ⟨by omega, h0, by omega, by omega⟩)
 have GE1:=Hd9 (fun W => trecip_arg 5 (-1) W (Or.inl (by decide)))
 have GE2:=Hd9 (fun W => trecip_arg 5 4097 W (Or.inl (by decide)))
 clear o1 o2 o3 hk hr2 hr3 hq2 hq3
 refine (MO1.out _).mono ?_
 rintro e9 w' ⟨rfl, rfl⟩
 (try go_wp2_with fail)
 refine (MO2.out _).mono ?_
 rintro e9 w' ⟨rfl, rfl⟩
 (try go_wp2_with fail)
 refine (MO3.out _).mono ?_
 rintro e9 w' ⟨rfl, rfl⟩
 obtain ⟨V0, hV0, L9⟩:=L.name
 rw [hV0]
 clear hV0 L
 have L:=L9
 clear L9
 replace L:=L.var V0.heap.size rfl 3 #[.int .i64 a0, .int .i64 q2, .int .i64 q3] (plain16 _ _ _)
 go_wp2_with fail
 obtain ⟨gr, hgr⟩:=nm9 (V0.heap.size)
 rw [hgr] at L ⊢
 clear hgr MO1 MO2 MO3 w1 w2
 go_loopw [33] (fun i wr => ∃ t : Nat, i = .int .i64 (t : Int) ∧ t ≤ 3 ∧ Lq w wr [] [] [] [(gr, 3, #[.int .i64 a0, .int .i64 q2, .int .i64 q3])]) (fun i _ => 3 - (intOf i).toNat)
 case atStart => exact ⟨0, rfl, by omega, L.subx (by simp) (by simp)⟩
 case round =>
  clear L
  obtain ⟨t, rfl, ht, L⟩:=hrel
  have hgr2:=L.b0.lt
  rcases Nat.eq_or_lt_of_le ht with rfl | ht3
  ·skip
   go_wp2_with fail
   refine (GE1.out _).mono ?_
   rintro e w41 ⟨vv, rfl, ii, be⟩
   obtain ⟨A4, c4, B4, d4, rfl, ia, ib⟩:=ii.form
   replace L:=((L.step be).n ib).n ia
   clear be ii ia ib
   have hl9:=L.b0.lt
   replace L:=L.varI w41.heap.size rfl (ng 0) A4 (zl 0) c4 0 (ng 0) B4 (zl 0) d4 0
   obtain ⟨cel00,cel01,cel02,cel03,cel04,cel05⟩:=L.b0.a6
   go_wp2_with fail
   clear cel00 cel01 cel02 cel03 cel04 cel05
   obtain ⟨g1, hg1⟩:=nm9 (w41.heap.size)
   rw [hg1] at L hl9 ⊢
   clear hg1
   clear hl9
   refine (GE2.out _).mono ?_
   rintro e w42 ⟨vv, rfl, ii, be⟩
   obtain ⟨A5, c5, B5, d5, rfl, ia, ib⟩:=ii.form
   replace L:=((L.step be).n ib).n ia
   clear be ii ia ib
   have hl9:=L.b0.lt
   replace L:=L.varI w42.heap.size rfl (ng 0) A5 (zl 0) c5 0 (ng 0) B5 (zl 0) d5 0
   obtain ⟨cel00,cel01,cel02,cel03,cel04,cel05⟩:=L.b0.a6
   go_wp2_with fail
   (try go_ret)
   exact ⟨rfl, L.below⟩
  ·obtain ⟨q, hr, hqr⟩ : ∃ q : Int, wr.cell? ⟨gr, t, none⟩ = some (.int .i64 q) ∧ (-9223372036854775808 ≤ q ∧ q ≤ 9223372036854775807):=by
    rcases (show t = 0 ∨ t = 1 ∨ t = 2 by omega) with rfl | rfl | rfl
    ·exact ⟨a0, L.b0.cell 0, HB.out.2.1⟩
    ·exact ⟨q2, L.b0.cell 1, HB.out.2.2.1⟩
    ·exact ⟨q3, L.b0.cell 2, HB.out.2.2.2⟩
   have hlt : (t : Int) < 3:=by omega
   have ht0 : (0 : Int) ≤ (t : Int):=by omega
   have w9 : IntKind.i64.wrap ((t : Int) + 1) = (t : Int) + 1:=by rw [IntKind.wrap_i64]; omega
   have bk:=HB.out.1
   have hcase : (q < 2 ∨ 1000000 < q) ∨ (2 ≤ q ∧ q ≤ 1000000):=by omega
   rcases hcase with hbad | ⟨hg1, hg2⟩
   ·have g1:=fun W => trecip_arg q (k : Int) W (Or.inr hbad)
    have z0 : zl 0 ≤ 1000:=by rw [zl_zero]; omega
    have g2:=fun v u W h k9 => r10same_any 0 0 0 0 0 0 0 0 v u W h k9 z0 z0 z0 z0 (by omega) (by omega) (by omega) (by omega)
    rw [show ((decide ((0 : Int) = 0) && decide ((0 : Int) = 0)) && (decide ((0 : Int) = 0) && decide ((0 : Int) = 0))) = true from by decide] at g2
    have G1:=Hd9 g1
    have G2:=Hd9 g2
    clear g1 g2 z0
    rcases (show q < 2 ∨ (¬ q < 2 ∧ 1000000 < q) by omega) with hb | ⟨hb0, hb⟩
    ·clear hbad
     go_wp2_with fail
     refine (G1.out _).mono ?_
     rintro e w61 ⟨vv, rfl, ii, be⟩
     obtain ⟨A4, c4, B4, d4, rfl, ia, ib⟩:=ii.form
     replace L:=((L.step be).n ib).n ia
     clear be ii ia ib
     have hl9:=L.b0.lt
     replace L:=L.varI w61.heap.size rfl (ng 0) A4 (zl 0) c4 0 (ng 0) B4 (zl 0) d4 0
     obtain ⟨cel00,cel01,cel02,cel03,cel04,cel05⟩:=L.b0.a6
     go_wp2_with fail
     clear cel00 cel01 cel02 cel03 cel04 cel05
     obtain ⟨gy, hgy⟩:=nm9 (w61.heap.size)
     rw [hgy] at L hl9 ⊢
     clear hgy
     clear hl9
     refine (G2.out _ _ _ (isI_n (m:=0) (e:=0) (n:=0) (f:=0) (s:=.slice A4 (zl 0) c4) (t:=.slice B4 (zl 0) d4) (L.getN (by simp)) (L.getN (by simp))) (isI_zero _)).mono ?_
     rintro e9 w62 ⟨rfl, be⟩
     replace L:=L.step be
     clear be
     (try go_wp2_with fail)
     go_roundw
     case rel => exact ⟨t + 1, by go_num, by omega, L.subx (by simp) (by simp)⟩
     case measure => simp [intOf]; omega
    ·clear hbad
     go_wp2_with fail
     refine (G1.out _).mono ?_
     rintro e w61 ⟨vv, rfl, ii, be⟩
     obtain ⟨A4, c4, B4, d4, rfl, ia, ib⟩:=ii.form
     replace L:=((L.step be).n ib).n ia
     clear be ii ia ib
     have hl9:=L.b0.lt
     replace L:=L.varI w61.heap.size rfl (ng 0) A4 (zl 0) c4 0 (ng 0) B4 (zl 0) d4 0
     obtain ⟨cel00,cel01,cel02,cel03,cel04,cel05⟩:=L.b0.a6
     go_wp2_with fail
     clear cel00 cel01 cel02 cel03 cel04 cel05
     obtain ⟨gy, hgy⟩:=nm9 (w61.heap.size)
     rw [hgy] at L hl9 ⊢
     clear hgy
     clear hl9
     refine (G2.out _ _ _ (isI_n (m:=0) (e:=0) (n:=0) (f:=0) (s:=.slice A4 (zl 0) c4) (t:=.slice B4 (zl 0) d4) (L.getN (by simp)) (L.getN (by simp))) (isI_zero _)).mono ?_
     rintro e9 w62 ⟨rfl, be⟩
     replace L:=L.step be
     clear be
     (try go_wp2_with fail)
     go_roundw
     case rel => exact ⟨t + 1, by go_num, by omega, L.subx (by simp) (by simp)⟩
     case measure => simp [intOf]; omega
   ·have hn1 : ¬ q < 2:=by omega
    have hn2 : ¬ 1000000 < q:=by omega
    have qp : (0 : Rat) < (q : Rat):=Rat.intCast_lt_intCast.2 (show (0 : Int) < q by omega)
    obtain ⟨x, hx⟩:=nm9 ((q : Rat)⁻¹)
    have x0 : 0 ≤ x:=by rw [← hx]; exact Rat.le_of_lt (Rat.inv_pos.2 qp)
    have x1 : x ≤ 1024:=by
     rw [← hx]
     refine le_of_mul qp ?_
     rw [Rat.inv_mul_cancel _ (Rat.ne_of_gt qp)]
     have:=Rat.intCast_le_intCast.2 (show (1 : Int) ≤ q by omega)
     have e : ((1 : Int) : Rat) = 1:=rfl
     rw [e] at this
     grind
    obtain ⟨k2, hk2⟩ : ∃ k2 : Nat, k + 20 = k2:=⟨_, rfl⟩
    have wk : IntKind.i64.wrap ((k : Int) + 20) = (k2 : Int):=by rw [IntKind.wrap_i64]; omega
    have g1:=fun W (hW : Below w.heap.size w W) => trecip_yes q k W hg1 hg2 (by omega) (HT.out W hW)
    rw [hx] at g1
    have g2:=fun W => (show Calls Tryz.prog 34 #[.int .i64 1] W (RetP W 1 1) from rofn7_any 1 W (by omega) (by omega))
    have g3:=fun W => (show Calls Tryz.prog 34 #[.int .i64 q] W (RetP W q 1) from rofn7_any q W hqr.1 hqr.2)
    have zq : zl q ≤ 1:=len_le1 (by omega)
    have z1 : zl 1 ≤ 1:=len_le1 (by decide)
    have l1 : len 1 ≤ 1:=len_le1 (by decide)
    have g4:=fun v u W h k9 => rdiv7_any 1 1 q 1 v u W h k9 (by omega) (by omega) (by omega) (by omega) (by omega) (by omega)
    have eD : Rat.divInt (1 * ((1 : Nat) : Int)) (((1 : Nat) : Int) * q) = x:=by
     rw [← hx, Rat.divInt_eq_div, show (((1 : Int) * ((1 : Nat) : Int) : Int) : Rat) = 1 from rfl, show (((1 : Nat) : Int) * q) = q by omega, Rat.div_def, Rat.one_mul]
    rw [eD] at g4
    have zs:=divInt_small 1 q.natAbs 10 (by omega) (by have : zl q = len q.natAbs:=rfl; omega) (by omega)
    rw [show ((q.natAbs : Nat) : Int) = q by omega, show Rat.divInt 1 q = x by rw [← hx, Rat.divInt_eq_div, show ((1 : Int) : Rat) = 1 from rfl, Rat.div_def, Rat.one_mul]] at zs
    have dp:=Rat.den_pos x
    have ex:=Rat.num_divInt_den x
    obtain ⟨qa, hqa⟩:=nm9 (x.num)
    obtain ⟨qd, hqd⟩:=nm9 (x.den)
    rw [hqa, hqd] at g4 zs ex
    rw [hqd] at dp
    have g5:=fun v W h (hW : Below w.heap.size w W) => aconst_any qa qd (k2 : Int) v W h (by omega) (by omega) dp (by omega) (by omega) (HT.out W hW)
    rw [ex] at g5
    obtain ⟨ce, cr⟩:=cutR (p:=k2) x0 x1 (by omega)
    simp only [ce] at g5
    obtain ⟨Mx, hMx⟩:=nm9 (enM x (k2 : Int))
    obtain ⟨Ex, hEx⟩:=nm9 (enE x (k2 : Int))
    obtain ⟨Nx, hNx⟩:=nm9 (upM x (k2 : Int))
    obtain ⟨Fx, hFx⟩:=nm9 (upE x (k2 : Int))
    rw [hMx, hEx, hNx, hFx] at g5 cr
    have cz1:=cr.z1
    have cz2:=cr.z2
    have ce1:=cr.e1
    have ce2:=cr.e2
    have g6:=fun v W h (hW : Below w.heap.size w W) => tatan_yes Mx Ex Nx Fx k v W h (by omega) (by omega) (by omega) (by omega) cr.v1 cr.v2 (small16 (by omega) (by omega) (by omega) (by omega) ((dcm_le _ _ _ _).2 (Rat.le_trans cr.lo cr.hi))) (by omega) (HT.out W hW)
    have g7:=fun W => s16inv_any q k W hg1 hg2 (by omega)
    rw [hx] at g7
    have HC:=Hd9 (And.intro cr bk)
    have G1:=Hd9 g1
    have G2:=Hd9 g2
    have G3:=Hd9 g3
    have G4:=Hd9 g4
    have G5:=Hd9 g5
    have G6:=Hd9 g6
    have G7:=Hd9 g7
    clear g1 g2 g3 g4 g5 g6 g7 cr cz1 cz2 ce1 ce2 hMx hEx hNx hFx ce ex dp hqa hqd zs eD zq z1 l1 hk2 x0 x1 hx qp hqr bk hg1 hg2
    go_wp2_with fail
    refine (G1.out _ L.below).mono ?_
    intro e9 w81 hr9
    obtain ⟨ay, by9, hay, vv, rfl, ii, be⟩:=hr9
    obtain ⟨A3, c3, B3, d3, rfl, ia, ib⟩:=ii.form
    replace L:=((L.step be).n ib).n ia
    clear be ii ia ib
    have hl9:=L.b0.lt
    obtain ⟨My, hMy⟩:=nm9 (mkM ay (-(k : Int)))
    obtain ⟨Ey, hEy⟩:=nm9 (mkE ay (-(k : Int)))
    obtain ⟨Ny, hNy⟩:=nm9 (mkM by9 (-(k : Int)))
    obtain ⟨Fy, hFy⟩:=nm9 (mkE by9 (-(k : Int)))
    rw [hMy, hNy] at L ⊢
    rw [hEy, hFy]
    have Hay:=Hd9 (And.intro hay (And.intro (And.intro hMy hEy) (And.intro hNy hFy)))
    clear hay hMy hEy hNy hFy
    replace L:=L.varI w81.heap.size rfl (ng My) A3 (zl My) c3 Ey (ng Ny) B3 (zl Ny) d3 Fy
    obtain ⟨cel00,cel01,cel02,cel03,cel04,cel05⟩:=L.b0.a6
    go_wp2_with fail
    clear cel00 cel01 cel02 cel03 cel04 cel05
    obtain ⟨gy, hgy⟩:=nm9 (w81.heap.size)
    rw [hgy] at L hl9 ⊢
    clear hgy
    have hl_gy:=hl9
    clear hl9
    clear hr
    refine (G2.out _).mono ?_
    rintro e w82 ⟨v9, rfl, iq, be⟩
    replace L:=(L.step be).q iq
    clear be iq
    (try go_wp2_with fail)
    refine (G3.out _).mono ?_
    rintro e w83 ⟨v8, rfl, iq, be⟩
    replace L:=(L.step be).q iq
    clear be iq
    (try go_wp2_with fail)
    refine (G4.out _ _ _ (L.getQ (by simp)) (L.getQ (by simp))).mono ?_
    rintro e w84 ⟨v7, rfl, iq, be⟩
    replace L:=(L.step be).q iq
    obtain ⟨A5, c5, B5, d5, rfl, _, _, _⟩:=iq.form
    clear be iq
    have hl9:=L.b0.lt
    replace L:=L.varQ w84.heap.size rfl (ng qa) A5 B5 (zl qa) c5 (len qd) d5
    obtain ⟨cel00,cel01,cel02⟩:=L.b0.a3
    go_wp2_with fail
    clear cel00 cel01 cel02
    obtain ⟨g7, hg7⟩:=nm9 (w84.heap.size)
    rw [hg7] at L hl9 ⊢
    clear hg7
    have hl_g7:=hl9
    clear hl9
    refine (G5.out _ _ (L.getQ (by simp)) L.below).mono ?_
    rintro e w85 ⟨v9, rfl, ii, be⟩
    obtain ⟨A6, c6, B6, d6, rfl, ia, ib⟩:=ii.form
    replace L:=((L.step be).n ib).n ia
    clear be ii ia ib
    have hl9:=L.b0.lt
    replace L:=L.varI w85.heap.size rfl (ng Mx) A6 (zl Mx) c6 Ex (ng Nx) B6 (zl Nx) d6 Fx
    obtain ⟨cel00,cel01,cel02,cel03,cel04,cel05⟩:=L.b0.a6
    (try go_wp2_with fail)
    clear cel00 cel01 cel02 cel03 cel04 cel05
    obtain ⟨gx, hgx⟩:=nm9 (w85.heap.size)
    rw [hgx] at L hl9 ⊢
    clear hgx
    have hl_gx:=hl9
    clear hl9
    refine (G6.out _ _ (isI_n (m:=Mx) (e:=Ex) (n:=Nx) (f:=Fx) (s:=.slice A6 (zl Mx) c6) (t:=.slice B6 (zl Nx) d6) (L.getN (by simp)) (L.getN (by simp))) L.below).mono ?_
    intro e9 w86 hr9
    obtain ⟨az, bz9, haz, vv, rfl, ii, be⟩:=hr9
    obtain ⟨A7, c7, B7, d7, rfl, ia, ib⟩:=ii.form
    replace L:=((L.step be).n ib).n ia
    clear be ii ia ib
    have hl9:=L.b0.lt
    obtain ⟨Mz, hMz⟩:=nm9 (mkM az (-(k : Int)))
    obtain ⟨Ez, hEz⟩:=nm9 (mkE az (-(k : Int)))
    obtain ⟨Nz, hNz⟩:=nm9 (mkM bz9 (-(k : Int)))
    obtain ⟨Fz, hFz⟩:=nm9 (mkE bz9 (-(k : Int)))
    rw [hMz, hNz] at L ⊢
    rw [hEz, hFz]
    have Haz:=Hd9 (And.intro haz (And.intro (And.intro hMz hEz) (And.intro hNz hFz)))
    clear haz hMz hEz hNz hFz
    replace L:=L.varI w86.heap.size rfl (ng Mz) A7 (zl Mz) c7 Ez (ng Nz) B7 (zl Nz) d7 Fz
    obtain ⟨cel00,cel01,cel02,cel03,cel04,cel05⟩:=L.b0.a6
    (try go_wp2_with fail)
    clear cel00 cel01 cel02 cel03 cel04 cel05
    obtain ⟨gz, hgz⟩:=nm9 (w86.heap.size)
    rw [hgz] at L hl9 ⊢
    clear hgz
    have hl_gz:=hl9
    clear hl9
    obtain ⟨⟨ey, fy, za, zb, le9, ti9⟩, ⟨hMy, hEy⟩, hNy, hFy⟩:=Hay.out
    obtain ⟨⟨ez, fz, zc, zd⟩, ⟨hMz, hEz⟩, hNz, hFz⟩:=Haz.out
    obtain ⟨cr, bk⟩:=HC.out
    have htg:=tgt16 (k:=k) za zb le9 ti9 (by omega)
    obtain ⟨p1, p2, p3, p4⟩:=gr16 (k:=k) za (by omega) (by omega)
    obtain ⟨q1, q2', q3', q4⟩:=gr16 (k:=k) zb (by omega) (by omega)
    obtain ⟨r1, r2', r3', r4⟩:=gr16 (k:=k) zc (by omega) (by omega)
    obtain ⟨s1, s2, s3, s4⟩:=gr16 (k:=k) zd (by omega) (by omega)
    rw [hMy, hEy, hNy, hFy] at htg
    rw [hMy] at p1
    rw [hEy] at p2
    rw [hMy, hEy] at p3 p4
    rw [hNy] at q1
    rw [hFy] at q2'
    rw [hNy, hFy] at q3' q4
    rw [hMz] at r1
    rw [hEz] at r2'
    rw [hMz, hEz] at r4
    rw [hNz] at s1
    rw [hFz] at s2
    rw [hNz, hFz] at s4
    have g8:=fun v W h => s13tight_any My Ey Ny Fy (k : Int) v W h (by omega) (by omega) (by omega) (by omega) p3 q3' (by omega) (by omega)
    rw [htg] at g8
    have g9 : ∀ a b : Int, (AtL (dq a (-((k + 16 : Nat) : Int))) x ∧ AtU x (dq b (-((k + 16 : Nat) : Int))) ∧ zl a ≤ 26 ∧ zl b ≤ 26) → ∀ v u W, IsI W v My Ey Ny Fy → IsI W u (mkM a (-((k + 16 : Nat) : Int))) (mkE a (-((k + 16 : Nat) : Int))) (mkM b (-((k + 16 : Nat) : Int))) (mkE b (-((k + 16 : Nat) : Int))) → Calls Tryz.prog 37 #[v, u] W (RetB W true):=fun a b hab v u W h k9 => by
     obtain ⟨h1, h2, h3, h4⟩:=hab
     have ra : mkR a (-((k + 16 : Nat) : Int)) = 0:=mk_fits9 (by omega) (by omega) (by omega)
     have rb : mkR b (-((k + 16 : Nat) : Int)) = 0:=mk_fits9 (by omega) (by omega) (by omega)
     have m1:=zl_mk a (-((k + 16 : Nat) : Int))
     have m2:=zl_mk b (-((k + 16 : Nat) : Int))
     have m3:=mkE_at ra h3
     have m4:=mkE_at rb h4
     have s:=s13touches_any _ _ _ _ _ _ _ _ v u W h k9 (by omega) (by omega) (by omega) (by omega) (by omega) (by omega) (by omega) (by omega)
     rwa [icm_meet16 (by rw [dq_mk ra, q4]; exact at_le h1 fy.2 Rat.le_refl) (by rw [p4, dq_mk rb]; exact at_le ey.1 h2 Rat.le_refl)] at s
    have g10:=fun v u W h k9 => r10cmp_any My Ey Ny Fy Mz Ez Nz Fz v u W h k9 (by omega) (by omega) (by omega) (by omega) (by omega) (by omega) (by omega) (by omega)
    rw [icm_meet16 (by rw [r4, q4]; exact at_le ez.1 fy.2 cr.lo) (by rw [p4, s4]; exact at_le ey.1 fz.2 cr.hi)] at g10
    obtain ⟨j16, hj16⟩:=nm9 (k + 16)
    rw [hj16] at g9 G7
    have G8:=Hd9 g8
    have G9:=Hd9 g9
    have G10:=Hd9 g10
    clear g8 g9 g10 ey fy za zb le9 ti9 hMy hEy hNy hFy ez fz zc zd hMz hEz hNz hFz cr bk htg p1 p2 p3 p4 q1 q2' q3' q4 r1 r2' r3' r4 s1 s2 s3 s4 hj16
    replace L:=L.drew
    obtain ⟨cel00,cel01,cel02,cel03,cel04,cel05⟩:=L.b0.a6
    obtain ⟨cel30,cel31,cel32,cel33,cel34,cel35⟩:=L.tl.tl.tl.b0.a6
    go_region_held3 (fun w' => w'.cell? ⟨gz, 0, none⟩ = some (.bool (ng Mz)) ∧ w'.cell? ⟨gz, 1, none⟩ = some (.slice A7 (zl Mz) c7) ∧ w'.cell? ⟨gz, 2, none⟩ = some (.int .i64 Ez) ∧ w'.cell? ⟨gz, 3, none⟩ = some (.bool (ng Nz)) ∧ w'.cell? ⟨gz, 4, none⟩ = some (.slice B7 (zl Nz) d7) ∧ w'.cell? ⟨gz, 5, none⟩ = some (.int .i64 Fz) ∧ w'.cell? ⟨gy, 0, none⟩ = some (.bool (ng My)) ∧ w'.cell? ⟨gy, 1, none⟩ = some (.slice A3 (zl My) c3) ∧ w'.cell? ⟨gy, 2, none⟩ = some (.int .i64 Ey) ∧ w'.cell? ⟨gy, 3, none⟩ = some (.bool (ng Ny)) ∧ w'.cell? ⟨gy, 4, none⟩ = some (.slice B3 (zl Ny) d3) ∧ w'.cell? ⟨gy, 5, none⟩ = some (.int .i64 Fy)) (first | (with_reducible exact ⟨L.b0.c60, L.b0.c61, L.b0.c62, L.b0.c63, L.b0.c64, L.b0.c65, L.tl.tl.tl.b0.c60, L.tl.tl.tl.b0.c61, L.tl.tl.tl.b0.c62, L.tl.tl.tl.b0.c63, L.tl.tl.tl.b0.c64, L.tl.tl.tl.b0.c65⟩) | exact ⟨L.b0.c60, L.b0.c61, L.b0.c62, L.b0.c63, L.b0.c64, L.b0.c65, L.tl.tl.tl.b0.c60, L.tl.tl.tl.b0.c61, L.tl.tl.tl.b0.c62, L.tl.tl.tl.b0.c63, L.tl.tl.tl.b0.c64, L.tl.tl.tl.b0.c65⟩) (first | (go_at_call 36; (with_reducible refine (G8.out _ _ ?_).mono ?_); (· (refine isI_n (L.getN ?_) (L.getN ?_); all_goals (repeat (first | (with_reducible exact mS) | apply mT)))); rintro e wh ⟨rfl, be⟩; replace L:=L.step be; clear be) | (go_at_call 38; (with_reducible refine (G7.out _).mono ?_); rintro e wh ⟨X8, Y8, hX8, vh, rfl, ii, be⟩; obtain ⟨A8, c8, B8, d8, rfl, ia, ib⟩:=ii.form; replace L:=((L.step be).n ib).n ia; clear be ii ia ib) | (go_at_call 37; (with_reducible refine (G9.out X8 Y8 hX8 _ _ _ ?_ ?_).mono ?_); (· (refine isI_n (L.getN ?_) (L.getN ?_); all_goals (repeat (first | (with_reducible exact mS) | apply mT)))); (· (refine isI_n (L.getN ?_) (L.getN ?_); all_goals (repeat (first | (with_reducible exact mS) | apply mT)))); rintro e wh ⟨rfl, be⟩; replace L:=L.step be; clear be) | (go_at_call 25; (with_reducible refine (G10.out _ _ _ ?_ ?_).mono ?_); (· (refine isI_n (L.getN ?_) (L.getN ?_); all_goals (repeat (first | (with_reducible exact mS) | apply mT)))); (· (refine isI_n (L.getN ?_) (L.getN ?_); all_goals (repeat (first | (with_reducible exact mS) | apply mT)))); rintro e wh ⟨rfl, be⟩; replace L:=L.step be; clear be))
    (try go_wp2_with fail)
    go_roundw
    case rel => exact ⟨t + 1, by go_num, by omega, L.subx (by simp) (by simp)⟩
    case measure => simp [intOf]; omega

end Go.Proofs.YtmgbjldogggpcaaGreatDoor
