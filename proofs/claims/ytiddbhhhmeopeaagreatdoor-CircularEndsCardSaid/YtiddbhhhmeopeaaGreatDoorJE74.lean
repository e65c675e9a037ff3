/- Joined: CiL, IvPM, CiO, CiS, CiTwo, CiPE, CiPF, Awake17, CiV, RefCoD, ExQ, MillAr, ExK, ExL, DyOpen, IvOpen (what the law leans on). -/
import Derived.Test.YtiddbhhhmeopeaaGreatDoorBaseIE7
import Derived.Test.YtiddbhhhmeopeaaGreatDoorBaseJE7
import Derived.Test.YtiddbhhhmeopeaaGreatDoorBaseDE7
import Derived.Test.YtiddbhhhmeopeaaGreatDoorBaseEE7
import Derived.Test.YtiddbhhhmeopeaaGreatDoorBaseVE7
import Derived.Test.YtiddbhhhmeopeaaGreatDoorRefDivModE7
import Derived.Test.YtiddbhhhmeopeaaGreatDoorBaseWE7
import Derived.Test.YtiddbhhhmeopeaaGreatDoorRefGrBE7
import Derived.Test.YtiddbhhhmeopeaaGreatDoorBaseXE7
import Derived.Test.YtiddbhhhmeopeaaGreatDoorGrPCE7
import Derived.Test.YtiddbhhhmeopeaaGreatDoorBaseZE7
import Derived.Test.YtiddbhhhmeopeaaGreatDoorJE71
import Derived.Test.YtiddbhhhmeopeaaGreatDoorJE72
import Derived.Test.YtiddbhhhmeopeaaGreatDoorJE73
import Derived.BigQuiet
import Derived.ChangeOld
import Derived.Deep.Cut
import Derived.Deep.CutRange
import Derived.Deep.DrawnRows
import Derived.Deep.LoopGhost
import Derived.Deep.QuietTactic
import Derived.Deep.RegionHeld3
import Derived.Lib.SmallJoins
import Derived.OpenShut
import Derived.ProofKit
namespace Go.Proofs.YtiddbhhhmeopeaaGreatDoor
set_option maxHeartbeats 64000000
open Go.RowKit
set_option linter.unusedVariables false
set_option linter.unusedSimpArgs false
set_option maxRecDepth 100000
attribute [local go_sem ↓] Go.wp_at_zero Go.wp_at_succ
def RetDD (w : World) (m e n f : Int) (en : Ending) (w' : World) : Prop:=∃ v u, en = .returned (.tuple #[v, u]) ∧ IsD w' v m e ∧ IsD w' u n f ∧ Below w.heap.size w w'
theorem mk_pos {x e : Int} (h : mkR x e = 0) : (0 < mkM x e ↔ 0 < x) ∧ (mkM x e < 0 ↔ x < 0):=by
 have a:=mk_ge h
 have b:=mk_z h
 constructor <;> constructor <;> intro _ <;> (first | omega | (rcases Decidable.em (x = 0) with hx | hx <;> omega))
theorem dcm_gt9 (m e n f : Int) : 0 < dcm m e n f ↔ dq n f < dq m e:=by
 have:=dcm_le m e n f
 rw [← Rat.not_le, ← this, Int.not_le]
def exN1 (t1 R1 : Int) : Int:=t1 + (if 0 < R1 then 1 else 0)
def exN2 (t2 R2 : Int) : Int:=t2 - (if R2 < 0 then 1 else 0)
def eyL (p : Nat) (t1 R1 t2 R2 : Int) : Int:=if pass 3 (exN1 t1 R1) (exN2 t2 R2) then -(2 ^ p) else min (diI p t1 R1) (diI p t2 R2)
def eyG (p : Nat) (t1 R1 t2 R2 : Int) : Int:=if pass 1 (exN1 t1 R1) (exN2 t2 R2) then 2 ^ p else max (diI p t1 R1) (diI p t2 R2)

theorem yext_any (t1 R1 t2 R2 : Int) (p : Nat) (vx vy : Value) (w : World) (hx : IsX w vx t1 (mkM R1 (-(p : Int))) (mkE R1 (-(p : Int))) (p : Int)) (hy : IsX w vy t2 (mkM R2 (-(p : Int))) (mkE R2 (-(p : Int))) (p : Int)) (h1 : R1.natAbs ≤ 2 ^ p) (h2 : R2.natAbs ≤ 2 ^ p) (b1 : -10000000000 ≤ t1 ∧ t1 ≤ 10000000000) (b2 : -10000000000 ≤ t2 ∧ t2 ≤ 10000000000) (hp : p ≤ 240) (hp2 : 64 ≤ p) (hT : Tab w) :
    Calls Tryz.prog 146 #[vx, vy] w (RetDD w (mkM (eyL p t1 R1 t2 R2) (-(p : Int))) (mkE (eyL p t1 R1 t2 R2) (-(p : Int))) (mkM (eyG p t1 R1 t2 R2) (-(p : Int))) (mkE (eyG p t1 R1 t2 R2) (-(p : Int)))):=by
  obtain ⟨A, c, rfl, hn⟩:=hx.form
  obtain ⟨B, d, rfl, hn2⟩:=hy.form
  have L0:=((Lq.mk0 w).n hn2).n hn
  have aR1 : AbP R1 p:=h1
  have aR2 : AbP R2 p:=h2
  obtain ⟨i1, i2, i3, i4, i5⟩:=nx (x := -(p : Int)) aR1 (by omega) (by omega)
  obtain ⟨j1, j2, j3, j4, j5⟩:=nx (x := -(p : Int)) aR2 (by omega) (by omega)
  have aV1 : AbP (diI p t1 R1) (p + 1):=(diI_ok t1 h1 hp hp2).2
  have aV2 : AbP (diI p t2 R2) (p + 1):=(diI_ok t2 h2 hp hp2).2
  obtain ⟨k1, k2, k3, k4, k5⟩:=nx (x := -(p : Int)) aV1 (by omega) (by omega)
  obtain ⟨l1, l2, l3, l4, l5⟩:=nx (x := -(p : Int)) aV2 (by omega) (by omega)
  have g1:=fun x W h (hW : Below w.heap.size w W) => ydir_any t1 R1 p x W h h1 hp hp2 (hT.mono hW)
  have g2:=fun x W h (hW : Below w.heap.size w W) => ydir_any t2 R2 p x W h h2 hp hp2 (hT.mono hW)
  have g3:=fun x y W h j => dcmp_any (mkM (diI p t1 R1) (-(p : Int))) (mkE (diI p t1 R1) (-(p : Int))) (mkM (diI p t2 R2) (-(p : Int))) (mkE (diI p t2 R2) (-(p : Int))) x y W h j (by omega) (by omega) (by omega) (by omega)
  have hc:=dcm_gt9 (mkM (diI p t1 R1) (-(p : Int))) (mkE (diI p t1 R1) (-(p : Int))) (mkM (diI p t2 R2) (-(p : Int))) (mkE (diI p t2 R2) (-(p : Int)))
  rw [show cmpI ((mkM (diI p t1 R1) (-(p : Int))) * 2 ^ ((mkE (diI p t1 R1) (-(p : Int))) - min (mkE (diI p t1 R1) (-(p : Int))) (mkE (diI p t2 R2) (-(p : Int)))).toNat) ((mkM (diI p t2 R2) (-(p : Int))) * 2 ^ ((mkE (diI p t2 R2) (-(p : Int))) - min (mkE (diI p t1 R1) (-(p : Int))) (mkE (diI p t2 R2) (-(p : Int)))).toNat) = dcm (mkM (diI p t1 R1) (-(p : Int))) (mkE (diI p t1 R1) (-(p : Int))) (mkM (diI p t2 R2) (-(p : Int))) (mkE (diI p t2 R2) (-(p : Int))) from rfl] at g3
  rw [k5, l5, dq_lt_iff] at hc
  obtain ⟨cm, hcm⟩:=nm9 (dcm (mkM (diI p t1 R1) (-(p : Int))) (mkE (diI p t1 R1) (-(p : Int))) (mkM (diI p t2 R2) (-(p : Int))) (mkE (diI p t2 R2) (-(p : Int))))
  rw [hcm] at g3 hc
  have g4:=fun x y W h j => ypass_any t1 (mkM R1 (-(p : Int))) (mkE R1 (-(p : Int))) t2 (mkM R2 (-(p : Int))) (mkE R2 (-(p : Int))) 1 p x y W h j (by omega) (by omega) b1 b2 (by omega)
  have g5:=fun x y W h j => ypass_any t1 (mkM R1 (-(p : Int))) (mkE R1 (-(p : Int))) t2 (mkM R2 (-(p : Int))) (mkE R2 (-(p : Int))) 3 p x y W h j (by omega) (by omega) b1 b2 (by omega)
  simp only [(mk_pos i1).1, (mk_pos j1).2] at g4 g5
  rw [show t1 + (if 0 < R1 then 1 else 0) = exN1 t1 R1 from rfl, show t2 - (if R2 < 0 then 1 else 0) = exN2 t2 R2 from rfl] at g4 g5
  have g6:=fun W (hW : Below w.heap.size w W) => dof_any 1 W (by omega) (by omega) (hT.mono hW)
  have g7:=fun W (hW : Below w.heap.size w W) => dof_any (-1) W (by omega) (by omega) (hT.mono hW)
  obtain ⟨o1, o2⟩:=np_int 1 (p:=p) (j:=0) (by decide) (by omega) (by omega)
  obtain ⟨o3, o4⟩:=np_int (-1) (p:=p) (j:=0) (by decide) (by omega) (by omega)
  rw [o1, o2] at g6
  rw [o3, o4] at g7
  have HX:=Hd9 hc
  have e1 : eyL p t1 R1 t2 R2 = if pass 3 (exN1 t1 R1) (exN2 t2 R2) then -1 * 2 ^ p else min (diI p t1 R1) (diI p t2 R2):=by unfold eyL; split <;> omega
  have e2 : eyG p t1 R1 t2 R2 = if pass 1 (exN1 t1 R1) (exN2 t2 R2) then 1 * 2 ^ p else max (diI p t1 R1) (diI p t2 R2):=by unfold eyG; split <;> omega
  rw [e1, e2]
  obtain ⟨q1, hq1⟩:=nm9 (pass 1 (exN1 t1 R1) (exN2 t2 R2))
  obtain ⟨q3, hq3⟩:=nm9 (pass 3 (exN1 t1 R1) (exN2 t2 R2))
  rw [hq1] at g4 ⊢
  rw [hq3] at g5 ⊢
  obtain ⟨v1, hv1⟩:=nm9 ((diI p t1 R1))
  obtain ⟨v2, hv2⟩:=nm9 ((diI p t2 R2))
  rw [hv1] at g1 g3 HX ⊢
  rw [hv2] at g2 g3 HX ⊢
  obtain ⟨XL, hXL⟩:=nm9 ((if q3 = true then -1 * 2 ^ p else min v1 v2))
  obtain ⟨XG, hXG⟩:=nm9 ((if q1 = true then 1 * 2 ^ p else max v1 v2))
  rw [hXL, hXG]
  obtain ⟨np1, hnp1⟩ : ∃ z : Int, 1 * 2 ^ p = z:=⟨_, rfl⟩
  obtain ⟨nm1, hnm1⟩ : ∃ z : Int, -1 * 2 ^ p = z:=⟨_, rfl⟩
  rw [hnp1] at g6 hXG
  rw [hnm1] at g7 hXL
  clear hnp1 hnm1
  have HXL:=Hd9 hXL
  have HXG:=Hd9 hXG
  clear hXL hXG
  clear i1 i2 i3 i4 i5 j1 j2 j3 j4 j5 aR1 aR2 aV1 aV2 k1 k2 k3 k4 k5 l1 l2 l3 l4 l5 hc hcm o1 o2 o3 o4 e1 e2 hq1 hq3 hv1 hv2 h1 h2 b1 b2 hp hp2 hT hx hy hn hn2
  generalize mkM R1 (-(p : Int)) = MR1 at *
  generalize mkE R1 (-(p : Int)) = ER1 at *
  generalize mkM R2 (-(p : Int)) = MR2 at *
  generalize mkE R2 (-(p : Int)) = ER2 at *
  have G1:=Hd9 g1
  have G2:=Hd9 g2
  have G3:=Hd9 g3
  have G4:=Hd9 g4
  have G5:=Hd9 g5
  have G6:=Hd9 g6
  have G7:=Hd9 g7
  clear g1 g2 g3 g4 g5 g6 g7
  go_enter Tryz.func146, Tryz.ntmps146
  have L:=((((L0.varDi (w.heap.size) (by simp) t1 (ng MR1) A (zl MR1) c ER1 (p : Int)).varDi (w.heap.size + 1) (by simp) t2 (ng MR2) B (zl MR2) d ER2 (p : Int)).varD (w.heap.size + 2) (by simp) false none 0 0 0).varD (w.heap.size + 3) (by simp) false none 0 0 0)
  replace L:=L.drew
  obtain ⟨c00,c01,c02⟩:=L.b0.a3
  obtain ⟨f00,f01,f02⟩:=L.b0.f3
  obtain ⟨c10,c11,c12⟩:=L.tl.b0.a3
  obtain ⟨f10,f11,f12⟩:=L.tl.b0.f3
  have c20:=L.tl.tl.b0.c50
  have c21:=L.tl.tl.b0.c51
  have c22:=L.tl.tl.b0.c52
  have c23:=L.tl.tl.b0.c53
  have c24:=L.tl.tl.b0.c54
  have c30:=L.tl.tl.tl.b0.c50
  have c31:=L.tl.tl.tl.b0.c51
  have c32:=L.tl.tl.tl.b0.c52
  have c33:=L.tl.tl.tl.b0.c53
  have c34:=L.tl.tl.tl.b0.c54
  (try go_wp2_with fail)
  go_cut [] from 6 to 9 (fun wx => ∃ (A1 A2 : Option Addr) (c1 c2 : Nat), Lq w wx [(.slice A1 (zl (mkM v1 (-(p : Int)))) c1, (mkM v1 (-(p : Int)) : Int).natAbs), (.slice A2 (zl (mkM v2 (-(p : Int)))) c2, (mkM v2 (-(p : Int)) : Int).natAbs), (.slice A (zl MR1) c, MR1.natAbs), (.slice B (zl MR2) d, MR2.natAbs)] [] [] [(w.heap.size + 1 + 1 + 1, 26, #[.bool (ng (mkM v2 (-(p : Int)))), .slice A2 (zl (mkM v2 (-(p : Int)))) c2, .int .i64 (mkE v2 (-(p : Int)))]), (w.heap.size + 1 + 1, 26, #[.bool (ng (mkM v1 (-(p : Int)))), .slice A1 (zl (mkM v1 (-(p : Int)))) c1, .int .i64 (mkE v1 (-(p : Int)))]), (w.heap.size + 1, 150, #[.int .i64 t2, .bool (ng MR2), .slice B (zl MR2) d, .int .i64 ER2, .int .i64 (p : Int)]), (w.heap.size, 150, #[.int .i64 t1, .bool (ng MR1), .slice A (zl MR1) c, .int .i64 ER1, .int .i64 (p : Int)])])
  case first =>
    go_region_with (first | (go_at_call 201; (with_reducible refine (G1.out _ _ ?_ L.below).mono ?_); (· (refine isX_n (L.getN ?_) <;> (repeat (first | (with_reducible exact mS) | apply mT)))); rintro e9 wh ⟨vh, rfl, id, be⟩; obtain ⟨A1, c1, rfl, _, in9⟩:=id.form; replace L:=(L.step be).n in9; clear be id in9; (try (obtain ⟨r00,r01,r02⟩:=L.b0.a3; obtain ⟨z00,z01,z02⟩:=L.b0.f3; obtain ⟨r10,r11,r12⟩:=L.tl.b0.a3; obtain ⟨z10,z11,z12⟩:=L.tl.b0.f3; have r20:=L.tl.tl.b0.c50; have r21:=L.tl.tl.b0.c51; have r22:=L.tl.tl.b0.c52; have r23:=L.tl.tl.b0.c53; have r24:=L.tl.tl.b0.c54; have r30:=L.tl.tl.tl.b0.c50; have r31:=L.tl.tl.tl.b0.c51; have r32:=L.tl.tl.tl.b0.c52; have r33:=L.tl.tl.tl.b0.c53; have r34:=L.tl.tl.tl.b0.c54))) | (go_at_call 201; (with_reducible refine (G2.out _ _ ?_ L.below).mono ?_); (· (refine isX_n (L.getN ?_) <;> (repeat (first | (with_reducible exact mS) | apply mT)))); rintro e9 wh ⟨vh, rfl, id, be⟩; obtain ⟨A2, c2, rfl, _, in9⟩:=id.form; replace L:=(L.step be).n in9; clear be id in9; (try (obtain ⟨r00,r01,r02⟩:=L.b0.a3; obtain ⟨z00,z01,z02⟩:=L.b0.f3; obtain ⟨r10,r11,r12⟩:=L.tl.b0.a3; obtain ⟨z10,z11,z12⟩:=L.tl.b0.f3; have r20:=L.tl.tl.b0.c50; have r21:=L.tl.tl.b0.c51; have r22:=L.tl.tl.b0.c52; have r23:=L.tl.tl.b0.c53; have r24:=L.tl.tl.b0.c54; have r30:=L.tl.tl.tl.b0.c50; have r31:=L.tl.tl.tl.b0.c51; have r32:=L.tl.tl.tl.b0.c52; have r33:=L.tl.tl.tl.b0.c53; have r34:=L.tl.tl.tl.b0.c54))))
    all_goals
      first
      | (have P:=(L.swap.putD (by omega) (by first | (simp; done) | (simp; omega)) (ng (mkM v1 (-(p : Int)))) A1 (zl (mkM v1 (-(p : Int)))) c1 (mkE v1 (-(p : Int)))).swap.putD (by omega) (by first | (simp; done) | (simp; omega)) (ng (mkM v2 (-(p : Int)))) A2 (zl (mkM v2 (-(p : Int)))) c2 (mkE v2 (-(p : Int)))
         unfold put3 at P
         go_wp2_with fail
         go_meet
         exact ⟨A1, A2, c1, c2, P.subx (by simp) (by simp)⟩)
      | (have P:=((L.putD (by omega) (by first | (simp; done) | (simp; omega)) (ng (mkM v2 (-(p : Int)))) A2 (zl (mkM v2 (-(p : Int)))) c2 (mkE v2 (-(p : Int)))).swap.putD (by omega) (by first | (simp; done) | (simp; omega)) (ng (mkM v1 (-(p : Int)))) A1 (zl (mkM v1 (-(p : Int)))) c1 (mkE v1 (-(p : Int)))).swap
         unfold put3 at P
         go_wp2_with fail
         go_meet
         exact ⟨A1, A2, c1, c2, P.subx (by simp) (by simp)⟩)
  case rest =>
    clear L
    obtain ⟨A1, A2, c1, c2, L⟩:=hcut
    generalize wc = wd1 at *
    obtain ⟨c00,c01,c02⟩:=L.b0.a3
    obtain ⟨c10,c11,c12⟩:=L.tl.b0.a3
    (try go_wp2_with fail)
    refine (G3.out _ _ _ (isD_n (m:=mkM v1 (-(p : Int))) (e:=mkE v1 (-(p : Int))) (s:=.slice A1 (zl (mkM v1 (-(p : Int)))) c1) (L.getN (by simp))) (isD_n (m:=mkM v2 (-(p : Int))) (e:=mkE v2 (-(p : Int))) (s:=.slice A2 (zl (mkM v2 (-(p : Int)))) c2) (L.getN (by simp)))).mono ?_
    rintro e w6 ⟨rfl, be⟩
    clear c00 c01 c02 c10 c11 c12
    replace L:=L.step be
    clear be
    have hlx:=L.b0.lt
    have hly:=L.tl.b0.lt
    go_upto_if 13 with fail
    generalize hbz : decide (0 < cm) = bz
    have HB:=Hd9 hbz
    clear hbz
    go_cut [] from 14 to 15 (fun wx => ∃ (A1 A2 : Option Addr) (c1 c2 : Nat), Lq w wx [(.slice A1 (zl (mkM (min v1 v2) (-(p : Int)))) c1, (mkM (min v1 v2) (-(p : Int)) : Int).natAbs), (.slice A2 (zl (mkM (max v1 v2) (-(p : Int)))) c2, (mkM (max v1 v2) (-(p : Int)) : Int).natAbs), (.slice A (zl MR1) c, MR1.natAbs), (.slice B (zl MR2) d, MR2.natAbs)] [] [] [(w.heap.size + 1 + 1 + 1, 26, #[.bool (ng (mkM (max v1 v2) (-(p : Int)))), .slice A2 (zl (mkM (max v1 v2) (-(p : Int)))) c2, .int .i64 (mkE (max v1 v2) (-(p : Int)))]), (w.heap.size + 1 + 1, 26, #[.bool (ng (mkM (min v1 v2) (-(p : Int)))), .slice A1 (zl (mkM (min v1 v2) (-(p : Int)))) c1, .int .i64 (mkE (min v1 v2) (-(p : Int)))]), (w.heap.size + 1, 150, #[.int .i64 t2, .bool (ng MR2), .slice B (zl MR2) d, .int .i64 ER2, .int .i64 (p : Int)]), (w.heap.size, 150, #[.int .i64 t1, .bool (ng MR1), .slice A (zl MR1) c, .int .i64 ER1, .int .i64 (p : Int)])])
    case first =>
      cases bz
      · have q0 : ¬ v2 < v1:=fun h => of_decide_eq_false HB.out (HX.out.2 h)
        have hmn : min v1 v2 = v1:=by omega
        have hmx : max v1 v2 = v2:=by omega
        obtain ⟨c00,c01,c02⟩:=L.b0.a3
        obtain ⟨f00,f01,f02⟩:=L.b0.f3
        obtain ⟨c10,c11,c12⟩:=L.tl.b0.a3
        obtain ⟨f10,f11,f12⟩:=L.tl.b0.f3
        go_wp2_with fail
        go_meet
        rw [hmn, hmx]
        exact ⟨A1, A2, c1, c2, L⟩
      · have q0 : v2 < v1:=HX.out.1 (of_decide_eq_true HB.out)
        have hmn : min v1 v2 = v2:=by omega
        have hmx : max v1 v2 = v1:=by omega
        obtain ⟨c00,c01,c02⟩:=L.b0.a3
        obtain ⟨f00,f01,f02⟩:=L.b0.f3
        obtain ⟨c10,c11,c12⟩:=L.tl.b0.a3
        obtain ⟨f10,f11,f12⟩:=L.tl.b0.f3
        have P:=(L.swap.putD (by omega) (by first | (simp; done) | (simp; omega)) (ng (mkM v2 (-(p : Int)))) A2 (zl (mkM v2 (-(p : Int)))) c2 (mkE v2 (-(p : Int)))).swap.putD (by omega) (by first | (simp; done) | (simp; omega)) (ng (mkM v1 (-(p : Int)))) A1 (zl (mkM v1 (-(p : Int)))) c1 (mkE v1 (-(p : Int)))
        unfold put3 at P
        go_wp2_with fail
        go_meet
        rw [hmn, hmx]
        exact ⟨A2, A1, c2, c1, P.subx (by simp) (by simp)⟩
    case rest =>
      clear L HX HB
      obtain ⟨A1, A2, c1, c2, L⟩:=hcut
      generalize wc = wd2 at *
      obtain ⟨lo, hlo⟩:=nm9 (min v1 v2)
      obtain ⟨hi, hhi⟩:=nm9 (max v1 v2)
      rw [hlo, hhi] at L
      rw [hlo] at HXL
      rw [hhi] at HXG
      clear hlo hhi
      cases hq1 : q1
      · have eg:=HXG.out
        rw [hq1] at eg G4
        simp only [if_true, if_false, Bool.false_eq_true] at eg
        cases hq3 : q3
        · have el:=HXL.out
          rw [hq3] at el G5
          simp only [if_true, if_false, Bool.false_eq_true] at el
          have HE:=Hd9 (And.intro el eg)
          clear el eg HXL HXG
          have c20:=L.tl.tl.b0.c50
          have c21:=L.tl.tl.b0.c51
          have c22:=L.tl.tl.b0.c52
          have c23:=L.tl.tl.b0.c53
          have c24:=L.tl.tl.b0.c54
          have c30:=L.tl.tl.tl.b0.c50
          have c31:=L.tl.tl.tl.b0.c51
          have c32:=L.tl.tl.tl.b0.c52
          have c33:=L.tl.tl.tl.b0.c53
          have c34:=L.tl.tl.tl.b0.c54
          (try go_wp2_with fail)
          refine (G4.out _ _ _ (isX_n (t:=t1) (m:=MR1) (e:=ER1) (p:=(p : Int)) (s:=.slice A (zl MR1) c) (L.getN (by simp))) (isX_n (t:=t2) (m:=MR2) (e:=ER2) (p:=(p : Int)) (s:=.slice B (zl MR2) d) (L.getN (by simp)))).mono ?_
          rintro e w10 ⟨rfl, be⟩
          clear c20 c21 c22 c23 c24 c30 c31 c32 c33 c34
          replace L:=L.step be
          clear be
          have c20:=L.tl.tl.b0.c50
          have c21:=L.tl.tl.b0.c51
          have c22:=L.tl.tl.b0.c52
          have c23:=L.tl.tl.b0.c53
          have c24:=L.tl.tl.b0.c54
          have c30:=L.tl.tl.tl.b0.c50
          have c31:=L.tl.tl.tl.b0.c51
          have c32:=L.tl.tl.tl.b0.c52
          have c33:=L.tl.tl.tl.b0.c53
          have c34:=L.tl.tl.tl.b0.c54
          (try go_wp2_with fail)
          refine (G5.out _ _ _ (isX_n (t:=t1) (m:=MR1) (e:=ER1) (p:=(p : Int)) (s:=.slice A (zl MR1) c) (L.getN (by simp))) (isX_n (t:=t2) (m:=MR2) (e:=ER2) (p:=(p : Int)) (s:=.slice B (zl MR2) d) (L.getN (by simp)))).mono ?_
          rintro e w11 ⟨rfl, be⟩
          clear c20 c21 c22 c23 c24 c30 c31 c32 c33 c34
          replace L:=L.step be
          clear be
          (try go_wp2_with fail)
          obtain ⟨c00,c01,c02⟩:=L.b0.a3
          obtain ⟨f00,f01,f02⟩:=L.b0.f3
          obtain ⟨c10,c11,c12⟩:=L.tl.b0.a3
          obtain ⟨f10,f11,f12⟩:=L.tl.b0.f3
          have P1:=L.putD (by omega) (by first | (simp; done) | (simp; omega)) (ng (mkM hi (-(p : Int)))) A2 (zl (mkM hi (-(p : Int)))) c2 (mkE hi (-(p : Int)))
          have P2:=(L.swap.putD (by omega) (by first | (simp; done) | (simp; omega)) (ng (mkM lo (-(p : Int)))) A1 (zl (mkM lo (-(p : Int)))) c1 (mkE lo (-(p : Int)))).swap
          have P3:=P1.swap.putD (by omega) (by first | (simp; done) | (simp; omega)) (ng (mkM lo (-(p : Int)))) A1 (zl (mkM lo (-(p : Int)))) c1 (mkE lo (-(p : Int)))
          have P4:=P2.putD (by omega) (by first | (simp; done) | (simp; omega)) (ng (mkM hi (-(p : Int)))) A2 (zl (mkM hi (-(p : Int)))) c2 (mkE hi (-(p : Int)))
          unfold put3 at P1 P2 P3 P4
          clear P1 P2
          go_region
          (try go_wp2_with fail)
          obtain ⟨el, eg⟩:=HE.out
          rw [← el, ← eg]
          clear el eg HE
          have PD:=P4.drew
          clear P3 P4 c00 f00 c01 f01 c02 f02 c10 f10 c11 f11 c12 f12
          (obtain ⟨k0,k1,k2⟩:=PD.tl.b0.a3; obtain ⟨k3,k4,k5⟩:=PD.b0.a3; exact bodyPost_ret (v:=.tuple #[.agg #[.bool (ng (mkM lo (-(p : Int)))), .slice A1 (zl (mkM lo (-(p : Int)))) c1, .int .i64 (mkE lo (-(p : Int)))], .agg #[.bool (ng (mkM hi (-(p : Int)))), .slice A2 (zl (mkM hi (-(p : Int)))) c2, .int .i64 (mkE hi (-(p : Int)))]]) (by simp [results, Tryz.results146, go_sem, k0, k1, k2, k3, k4, k5]) rfl ⟨_, _, rfl, isD_n (PD.getN (by simp)), isD_n (PD.getN (by simp)), PD.below⟩)
        · have el:=HXL.out
          rw [hq3] at el G5
          simp only [if_true, if_false, Bool.false_eq_true] at el
          have HE:=Hd9 (And.intro el eg)
          clear el eg HXL HXG
          have c20:=L.tl.tl.b0.c50
          have c21:=L.tl.tl.b0.c51
          have c22:=L.tl.tl.b0.c52
          have c23:=L.tl.tl.b0.c53
          have c24:=L.tl.tl.b0.c54
          have c30:=L.tl.tl.tl.b0.c50
          have c31:=L.tl.tl.tl.b0.c51
          have c32:=L.tl.tl.tl.b0.c52
          have c33:=L.tl.tl.tl.b0.c53
          have c34:=L.tl.tl.tl.b0.c54
          (try go_wp2_with fail)
          refine (G4.out _ _ _ (isX_n (t:=t1) (m:=MR1) (e:=ER1) (p:=(p : Int)) (s:=.slice A (zl MR1) c) (L.getN (by simp))) (isX_n (t:=t2) (m:=MR2) (e:=ER2) (p:=(p : Int)) (s:=.slice B (zl MR2) d) (L.getN (by simp)))).mono ?_
          rintro e w10 ⟨rfl, be⟩
          clear c20 c21 c22 c23 c24 c30 c31 c32 c33 c34
          replace L:=L.step be
          clear be
          have c20:=L.tl.tl.b0.c50
          have c21:=L.tl.tl.b0.c51
          have c22:=L.tl.tl.b0.c52
          have c23:=L.tl.tl.b0.c53
          have c24:=L.tl.tl.b0.c54
          have c30:=L.tl.tl.tl.b0.c50
          have c31:=L.tl.tl.tl.b0.c51
          have c32:=L.tl.tl.tl.b0.c52
          have c33:=L.tl.tl.tl.b0.c53
          have c34:=L.tl.tl.tl.b0.c54
          (try go_wp2_with fail)
          refine (G5.out _ _ _ (isX_n (t:=t1) (m:=MR1) (e:=ER1) (p:=(p : Int)) (s:=.slice A (zl MR1) c) (L.getN (by simp))) (isX_n (t:=t2) (m:=MR2) (e:=ER2) (p:=(p : Int)) (s:=.slice B (zl MR2) d) (L.getN (by simp)))).mono ?_
          rintro e w11 ⟨rfl, be⟩
          clear c20 c21 c22 c23 c24 c30 c31 c32 c33 c34
          replace L:=L.step be
          clear be
          (try go_wp2_with fail)
          refine (G7.out _ L.below).mono ?_
          rintro e w12 ⟨v9, rfl, iz, be⟩
          obtain ⟨A6, c6, rfl, _, in9⟩:=iz.form
          replace L:=(L.step be).n in9
          clear be iz in9
          replace L:=L.swap
          obtain ⟨c00,c01,c02⟩:=L.b0.a3
          obtain ⟨f00,f01,f02⟩:=L.b0.f3
          have P:=(L.putD (by omega) (by first | (simp; done) | (simp; omega)) (ng (mkM nm1 (-(p : Int)))) A6 (zl (mkM nm1 (-(p : Int)))) c6 (mkE nm1 (-(p : Int)))).swap
          unfold put3 at P
          obtain ⟨cp0,cp1,cp2⟩:=P.b0.a3
          obtain ⟨fp0,fp1,fp2⟩:=P.b0.f3
          obtain ⟨cq0,cq1,cq2⟩:=P.tl.b0.a3
          obtain ⟨fq0,fq1,fq2⟩:=P.tl.b0.f3
          (try go_wp2_with fail)
          replace L:=P
          clear P cp0 cp1 cp2 fp0 fp1 fp2 cq0 cq1 cq2 fq0 fq1 fq2 c00 f00 c01 f01 c02 f02
          obtain ⟨c00,c01,c02⟩:=L.b0.a3
          obtain ⟨f00,f01,f02⟩:=L.b0.f3
          obtain ⟨c10,c11,c12⟩:=L.tl.b0.a3
          obtain ⟨f10,f11,f12⟩:=L.tl.b0.f3
          have P1:=L.putD (by omega) (by first | (simp; done) | (simp; omega)) (ng (mkM hi (-(p : Int)))) A2 (zl (mkM hi (-(p : Int)))) c2 (mkE hi (-(p : Int)))
          have P2:=(L.swap.putD (by omega) (by first | (simp; done) | (simp; omega)) (ng (mkM nm1 (-(p : Int)))) A6 (zl (mkM nm1 (-(p : Int)))) c6 (mkE nm1 (-(p : Int)))).swap
          have P3:=P1.swap.putD (by omega) (by first | (simp; done) | (simp; omega)) (ng (mkM nm1 (-(p : Int)))) A6 (zl (mkM nm1 (-(p : Int)))) c6 (mkE nm1 (-(p : Int)))
          have P4:=P2.putD (by omega) (by first | (simp; done) | (simp; omega)) (ng (mkM hi (-(p : Int)))) A2 (zl (mkM hi (-(p : Int)))) c2 (mkE hi (-(p : Int)))
          unfold put3 at P1 P2 P3 P4
          clear P1 P2
          go_region
          (try go_wp2_with fail)
          obtain ⟨el, eg⟩:=HE.out
          rw [← el, ← eg]
          clear el eg HE
          have PD:=P4.drew
          clear P3 P4 c00 f00 c01 f01 c02 f02 c10 f10 c11 f11 c12 f12
          (obtain ⟨k0,k1,k2⟩:=PD.tl.b0.a3; obtain ⟨k3,k4,k5⟩:=PD.b0.a3; exact bodyPost_ret (v:=.tuple #[.agg #[.bool (ng (mkM nm1 (-(p : Int)))), .slice A6 (zl (mkM nm1 (-(p : Int)))) c6, .int .i64 (mkE nm1 (-(p : Int)))], .agg #[.bool (ng (mkM hi (-(p : Int)))), .slice A2 (zl (mkM hi (-(p : Int)))) c2, .int .i64 (mkE hi (-(p : Int)))]]) (by simp [results, Tryz.results146, go_sem, k0, k1, k2, k3, k4, k5]) rfl ⟨_, _, rfl, isD_n (PD.getN (by simp)), isD_n (PD.getN (by simp)), PD.below⟩)
      · have eg:=HXG.out
        rw [hq1] at eg G4
        simp only [if_true, if_false, Bool.false_eq_true] at eg
        cases hq3 : q3
        · have el:=HXL.out
          rw [hq3] at el G5
          simp only [if_true, if_false, Bool.false_eq_true] at el
          have HE:=Hd9 (And.intro el eg)
          clear el eg HXL HXG
          have c20:=L.tl.tl.b0.c50
          have c21:=L.tl.tl.b0.c51
          have c22:=L.tl.tl.b0.c52
          have c23:=L.tl.tl.b0.c53
          have c24:=L.tl.tl.b0.c54
          have c30:=L.tl.tl.tl.b0.c50
          have c31:=L.tl.tl.tl.b0.c51
          have c32:=L.tl.tl.tl.b0.c52
          have c33:=L.tl.tl.tl.b0.c53
          have c34:=L.tl.tl.tl.b0.c54
          (try go_wp2_with fail)
          refine (G4.out _ _ _ (isX_n (t:=t1) (m:=MR1) (e:=ER1) (p:=(p : Int)) (s:=.slice A (zl MR1) c) (L.getN (by simp))) (isX_n (t:=t2) (m:=MR2) (e:=ER2) (p:=(p : Int)) (s:=.slice B (zl MR2) d) (L.getN (by simp)))).mono ?_
          rintro e w10 ⟨rfl, be⟩
          clear c20 c21 c22 c23 c24 c30 c31 c32 c33 c34
          replace L:=L.step be
          clear be
          (try go_wp2_with fail)
          refine (G6.out _ L.below).mono ?_
          rintro e w11 ⟨v9, rfl, iz, be⟩
          obtain ⟨A5, c5, rfl, _, in9⟩:=iz.form
          replace L:=(L.step be).n in9
          clear be iz in9
          obtain ⟨c00,c01,c02⟩:=L.b0.a3
          obtain ⟨f00,f01,f02⟩:=L.b0.f3
          have c20:=L.tl.tl.b0.c50
          have c21:=L.tl.tl.b0.c51
          have c22:=L.tl.tl.b0.c52
          have c23:=L.tl.tl.b0.c53
          have c24:=L.tl.tl.b0.c54
          have c30:=L.tl.tl.tl.b0.c50
          have c31:=L.tl.tl.tl.b0.c51
          have c32:=L.tl.tl.tl.b0.c52
          have c33:=L.tl.tl.tl.b0.c53
          have c34:=L.tl.tl.tl.b0.c54
          have P:=L.putD (by omega) (by first | (simp; done) | (simp; omega)) (ng (mkM np1 (-(p : Int)))) A5 (zl (mkM np1 (-(p : Int)))) c5 (mkE np1 (-(p : Int)))
          have p20:=P.tl.tl.b0.c50
          have p21:=P.tl.tl.b0.c51
          have p22:=P.tl.tl.b0.c52
          have p23:=P.tl.tl.b0.c53
          have p24:=P.tl.tl.b0.c54
          have p30:=P.tl.tl.tl.b0.c50
          have p31:=P.tl.tl.tl.b0.c51
          have p32:=P.tl.tl.tl.b0.c52
          have p33:=P.tl.tl.tl.b0.c53
          have p34:=P.tl.tl.tl.b0.c54
          unfold put3 at P p20 p21 p22 p23 p24 p30 p31 p32 p33 p34
          (try go_wp2_with fail)
          replace L:=P
          clear P p20 p21 p22 p23 p24 p30 p31 p32 p33 p34
          clear c00 f00 c01 f01 c02 f02 c20 c21 c22 c23 c24 c30 c31 c32 c33 c34
          refine (G5.out _ _ _ (isX_n (t:=t1) (m:=MR1) (e:=ER1) (p:=(p : Int)) (s:=.slice A (zl MR1) c) (L.getN (by simp))) (isX_n (t:=t2) (m:=MR2) (e:=ER2) (p:=(p : Int)) (s:=.slice B (zl MR2) d) (L.getN (by simp)))).mono ?_
          rintro e w12 ⟨rfl, be⟩
          replace L:=L.step be
          clear be
          (try go_wp2_with fail)
          obtain ⟨c00,c01,c02⟩:=L.b0.a3
          obtain ⟨f00,f01,f02⟩:=L.b0.f3
          obtain ⟨c10,c11,c12⟩:=L.tl.b0.a3
          obtain ⟨f10,f11,f12⟩:=L.tl.b0.f3
          have P1:=L.putD (by omega) (by first | (simp; done) | (simp; omega)) (ng (mkM np1 (-(p : Int)))) A5 (zl (mkM np1 (-(p : Int)))) c5 (mkE np1 (-(p : Int)))
          have P2:=(L.swap.putD (by omega) (by first | (simp; done) | (simp; omega)) (ng (mkM lo (-(p : Int)))) A1 (zl (mkM lo (-(p : Int)))) c1 (mkE lo (-(p : Int)))).swap
          have P3:=P1.swap.putD (by omega) (by first | (simp; done) | (simp; omega)) (ng (mkM lo (-(p : Int)))) A1 (zl (mkM lo (-(p : Int)))) c1 (mkE lo (-(p : Int)))
          have P4:=P2.putD (by omega) (by first | (simp; done) | (simp; omega)) (ng (mkM np1 (-(p : Int)))) A5 (zl (mkM np1 (-(p : Int)))) c5 (mkE np1 (-(p : Int)))
          unfold put3 at P1 P2 P3 P4
          clear P1 P2
          go_region
          (try go_wp2_with fail)
          obtain ⟨el, eg⟩:=HE.out
          rw [← el, ← eg]
          clear el eg HE
          have PD:=P4.drew
          clear P3 P4 c00 f00 c01 f01 c02 f02 c10 f10 c11 f11 c12 f12
          (obtain ⟨k0,k1,k2⟩:=PD.tl.b0.a3; obtain ⟨k3,k4,k5⟩:=PD.b0.a3; exact bodyPost_ret (v:=.tuple #[.agg #[.bool (ng (mkM lo (-(p : Int)))), .slice A1 (zl (mkM lo (-(p : Int)))) c1, .int .i64 (mkE lo (-(p : Int)))], .agg #[.bool (ng (mkM np1 (-(p : Int)))), .slice A5 (zl (mkM np1 (-(p : Int)))) c5, .int .i64 (mkE np1 (-(p : Int)))]]) (by simp [results, Tryz.results146, go_sem, k0, k1, k2, k3, k4, k5]) rfl ⟨_, _, rfl, isD_n (PD.getN (by simp)), isD_n (PD.getN (by simp)), PD.below⟩)
        · have el:=HXL.out
          rw [hq3] at el G5
          simp only [if_true, if_false, Bool.false_eq_true] at el
          have HE:=Hd9 (And.intro el eg)
          clear el eg HXL HXG
          have c20:=L.tl.tl.b0.c50
          have c21:=L.tl.tl.b0.c51
          have c22:=L.tl.tl.b0.c52
          have c23:=L.tl.tl.b0.c53
          have c24:=L.tl.tl.b0.c54
          have c30:=L.tl.tl.tl.b0.c50
          have c31:=L.tl.tl.tl.b0.c51
          have c32:=L.tl.tl.tl.b0.c52
          have c33:=L.tl.tl.tl.b0.c53
          have c34:=L.tl.tl.tl.b0.c54
          (try go_wp2_with fail)
          refine (G4.out _ _ _ (isX_n (t:=t1) (m:=MR1) (e:=ER1) (p:=(p : Int)) (s:=.slice A (zl MR1) c) (L.getN (by simp))) (isX_n (t:=t2) (m:=MR2) (e:=ER2) (p:=(p : Int)) (s:=.slice B (zl MR2) d) (L.getN (by simp)))).mono ?_
          rintro e w10 ⟨rfl, be⟩
          clear c20 c21 c22 c23 c24 c30 c31 c32 c33 c34
          replace L:=L.step be
          clear be
          (try go_wp2_with fail)
          refine (G6.out _ L.below).mono ?_
          rintro e w11 ⟨v9, rfl, iz, be⟩
          obtain ⟨A5, c5, rfl, _, in9⟩:=iz.form
          replace L:=(L.step be).n in9
          clear be iz in9
          obtain ⟨c00,c01,c02⟩:=L.b0.a3
          obtain ⟨f00,f01,f02⟩:=L.b0.f3
          have c20:=L.tl.tl.b0.c50
          have c21:=L.tl.tl.b0.c51
          have c22:=L.tl.tl.b0.c52
          have c23:=L.tl.tl.b0.c53
          have c24:=L.tl.tl.b0.c54
          have c30:=L.tl.tl.tl.b0.c50
          have c31:=L.tl.tl.tl.b0.c51
          have c32:=L.tl.tl.tl.b0.c52
          have c33:=L.tl.tl.tl.b0.c53
          have c34:=L.tl.tl.tl.b0.c54
          have P:=L.putD (by omega) (by first | (simp; done) | (simp; omega)) (ng (mkM np1 (-(p : Int)))) A5 (zl (mkM np1 (-(p : Int)))) c5 (mkE np1 (-(p : Int)))
          have p20:=P.tl.tl.b0.c50
          have p21:=P.tl.tl.b0.c51
          have p22:=P.tl.tl.b0.c52
          have p23:=P.tl.tl.b0.c53
          have p24:=P.tl.tl.b0.c54
          have p30:=P.tl.tl.tl.b0.c50
          have p31:=P.tl.tl.tl.b0.c51
          have p32:=P.tl.tl.tl.b0.c52
          have p33:=P.tl.tl.tl.b0.c53
          have p34:=P.tl.tl.tl.b0.c54
          unfold put3 at P p20 p21 p22 p23 p24 p30 p31 p32 p33 p34
          (try go_wp2_with fail)
          replace L:=P
          clear P p20 p21 p22 p23 p24 p30 p31 p32 p33 p34
          clear c00 f00 c01 f01 c02 f02 c20 c21 c22 c23 c24 c30 c31 c32 c33 c34
          refine (G5.out _ _ _ (isX_n (t:=t1) (m:=MR1) (e:=ER1) (p:=(p : Int)) (s:=.slice A (zl MR1) c) (L.getN (by simp))) (isX_n (t:=t2) (m:=MR2) (e:=ER2) (p:=(p : Int)) (s:=.slice B (zl MR2) d) (L.getN (by simp)))).mono ?_
          rintro e w12 ⟨rfl, be⟩
          replace L:=L.step be
          clear be
          (try go_wp2_with fail)
          refine (G7.out _ L.below).mono ?_
          rintro e w13 ⟨v9, rfl, iz, be⟩
          obtain ⟨A6, c6, rfl, _, in9⟩:=iz.form
          replace L:=(L.step be).n in9
          clear be iz in9
          replace L:=L.swap
          obtain ⟨c00,c01,c02⟩:=L.b0.a3
          obtain ⟨f00,f01,f02⟩:=L.b0.f3
          have P:=(L.putD (by omega) (by first | (simp; done) | (simp; omega)) (ng (mkM nm1 (-(p : Int)))) A6 (zl (mkM nm1 (-(p : Int)))) c6 (mkE nm1 (-(p : Int)))).swap
          unfold put3 at P
          obtain ⟨cp0,cp1,cp2⟩:=P.b0.a3
          obtain ⟨fp0,fp1,fp2⟩:=P.b0.f3
          obtain ⟨cq0,cq1,cq2⟩:=P.tl.b0.a3
          obtain ⟨fq0,fq1,fq2⟩:=P.tl.b0.f3
          (try go_wp2_with fail)
          replace L:=P
          clear P cp0 cp1 cp2 fp0 fp1 fp2 cq0 cq1 cq2 fq0 fq1 fq2 c00 f00 c01 f01 c02 f02
          obtain ⟨c00,c01,c02⟩:=L.b0.a3
          obtain ⟨f00,f01,f02⟩:=L.b0.f3
          obtain ⟨c10,c11,c12⟩:=L.tl.b0.a3
          obtain ⟨f10,f11,f12⟩:=L.tl.b0.f3
          have P1:=L.putD (by omega) (by first | (simp; done) | (simp; omega)) (ng (mkM np1 (-(p : Int)))) A5 (zl (mkM np1 (-(p : Int)))) c5 (mkE np1 (-(p : Int)))
          have P2:=(L.swap.putD (by omega) (by first | (simp; done) | (simp; omega)) (ng (mkM nm1 (-(p : Int)))) A6 (zl (mkM nm1 (-(p : Int)))) c6 (mkE nm1 (-(p : Int)))).swap
          have P3:=P1.swap.putD (by omega) (by first | (simp; done) | (simp; omega)) (ng (mkM nm1 (-(p : Int)))) A6 (zl (mkM nm1 (-(p : Int)))) c6 (mkE nm1 (-(p : Int)))
          have P4:=P2.putD (by omega) (by first | (simp; done) | (simp; omega)) (ng (mkM np1 (-(p : Int)))) A5 (zl (mkM np1 (-(p : Int)))) c5 (mkE np1 (-(p : Int)))
          unfold put3 at P1 P2 P3 P4
          clear P1 P2
          go_region
          (try go_wp2_with fail)
          obtain ⟨el, eg⟩:=HE.out
          rw [← el, ← eg]
          clear el eg HE
          have PD:=P4.drew
          clear P3 P4 c00 f00 c01 f01 c02 f02 c10 f10 c11 f11 c12 f12
          (obtain ⟨k0,k1,k2⟩:=PD.tl.b0.a3; obtain ⟨k3,k4,k5⟩:=PD.b0.a3; exact bodyPost_ret (v:=.tuple #[.agg #[.bool (ng (mkM nm1 (-(p : Int)))), .slice A6 (zl (mkM nm1 (-(p : Int)))) c6, .int .i64 (mkE nm1 (-(p : Int)))], .agg #[.bool (ng (mkM np1 (-(p : Int)))), .slice A5 (zl (mkM np1 (-(p : Int)))) c5, .int .i64 (mkE np1 (-(p : Int)))]]) (by simp [results, Tryz.results146, go_sem, k0, k1, k2, k3, k4, k5]) rfl ⟨_, _, rfl, isD_n (PD.getN (by simp)), isD_n (PD.getN (by simp)), PD.below⟩)

theorem i10meet_any (m e n f m2 e2 n2 f2 : Int) (vx vy : Value) (w : World) (hx : IsI w vx m e n f) (hy : IsI w vy m2 e2 n2 f2) (lm : zl m ≤ 1000) (ln : zl n ≤ 1000) (lm2 : zl m2 ≤ 1000) (ln2 : zl n2 ≤ 1000) (he : -20000 ≤ e ∧ e ≤ 20000) (hf : -20000 ≤ f ∧ f ≤ 20000) (he2 : -20000 ≤ e2 ∧ e2 ≤ 20000) (hf2 : -20000 ≤ f2 ∧ f2 ≤ 20000) (hv1 : Dv m e) (hv2 : Dv n f) (hv3 : Dv m2 e2) (hv4 : Dv n2 f2) :
  Calls Tryz.prog 203 #[vx, vy] w (RetMt w m e n f m2 e2 n2 f2):=by
 obtain ⟨A, c, B, d, rfl, hn1, hn2⟩:=hx.form
 obtain ⟨A2, k2, B2, d2, rfl, hn3, hn4⟩:=hy.form
 have L0:=((((Lq.mk0 w).n hn4).n hn3).n hn2).n hn1
 have h1:=fun v u W k1 k2 => igreater_any m e m2 e2 v u W k1 k2 lm lm2 he he2 hv1 hv3
 have h2:=fun v u W k1 k2 => ilesser_any n f n2 f2 v u W k1 k2 ln ln2 hf hf2
 have z1:=gstD_zl lm lm2 (e:=e) (f:=e2)
 have z2:=lstD_zl ln ln2 (e:=f) (f:=f2)
 have i1:=gstD_in he he2 (m:=m) (n:=m2)
 have i2:=lstD_in hf hf2 (m:=n) (n:=n2)
 have y1:=gstD_dv hv1 hv3
 have y2:=lstD_dv hv2 hv4
 unfold RetMt mtB
 obtain ⟨um, ue, hu⟩ : ∃ x y, gstD m e m2 e2 = (x, y):=⟨_, _, rfl⟩
 obtain ⟨zm, ze, hz⟩ : ∃ x y, lstD n f n2 f2 = (x, y):=⟨_, _, rfl⟩
 rw [hu] at h1 z1 i1 y1 ⊢
 rw [hz] at h2 z2 i2 y2 ⊢
 simp only at z1 z2 i1 i2 y1 y2
 have hm:=fun v u W k1 k2 => i10make_any um ue zm ze v u W k1 k2 z1 z2 i1 i2 y1 y2
 have H1:=Hd9 h1
 have H2:=Hd9 h2
 dsimp only
 obtain ⟨M, E, N, G, er, b, hmk, her, hend⟩ : ∃ M E N G er : Int, ∃ b : Bool, (∀ W, RetMk W um ue zm ze = RetIE W M E N G er) ∧ (er == 0) = b ∧ (if decide (dcm um ue zm ze ≤ 0) = true then RetIV w um ue zm ze true else RetIV w 0 0 0 0 false) = RetIV w M E N G b:=by
  by_cases q : dcm um ue zm ze ≤ 0
  ·exact ⟨um, ue, zm, ze, 0, true, fun W => by unfold RetMk; rw [if_pos q], rfl, by rw [if_pos (decide_eq_true q)]⟩
  ·exact ⟨0, 0, 0, 0, 1, false, fun W => by unfold RetMk; rw [if_neg q], rfl, by rw [if_neg (by simpa using q)]⟩
 rw [hend]
 have hm2 : ∀ v u W, IsD W v um ue → IsD W u zm ze → Calls Tryz.prog 240 #[v, u] W (RetIE W M E N G er):=fun v u W k1 k2 => by
  rw [← hmk]
  exact hm v u W k1 k2
 have HM:=Hd9 hm2
 clear hm hm2 hmk hend h1 h2 hu hz hx hy hn1 hn2 hn3 hn4 lm ln lm2 ln2 he hf he2 hf2 hv1 hv2 hv3 hv4 z1 z2 i1 i2 y1 y2
 go_enter Tryz.func203, Tryz.ntmps203
 go_wp2_with fail
 have L:=(((L0.varI (w.heap.size) (by simp) (ng m) A (zl m) c e (ng n) B (zl n) d f).varI (w.heap.size + 1) (by simp) (ng m2) A2 (zl m2) k2 e2 (ng n2) B2 (zl n2) d2 f2).varI (w.heap.size + 2) (by simp) false none 0 0 0 false none 0 0 0)
 (try go_wp2_with fail)
 obtain ⟨V9, hV⟩:=nm9 (((w.alloc (.cells #[.bool (ng m), .slice A (zl m) c, .int .i64 e, .bool (ng n), .slice B (zl n) d, .int .i64 f] 28)).alloc (.cells #[.bool (ng m2), .slice A2 (zl m2) k2, .int .i64 e2, .bool (ng n2), .slice B2 (zl n2) d2, .int .i64 f2] 28)).alloc (.cells #[.bool false, .slice none 0 0, .int .i64 0, .bool false, .slice none 0 0, .int .i64 0] 28))
 rw [hV] at L ⊢
 clear hV
 have Q0:=Hd9 (fun Z (hZ : Below V9.heap.size V9 Z) => (L.tl.tl.b0.mono hZ).c60)
 have Q1:=Hd9 (fun Z (hZ : Below V9.heap.size V9 Z) => (L.tl.tl.b0.mono hZ).c61)
 have Q2:=Hd9 (fun Z (hZ : Below V9.heap.size V9 Z) => (L.tl.tl.b0.mono hZ).c62)
 have Q3:=Hd9 (fun Z (hZ : Below V9.heap.size V9 Z) => (L.tl.tl.b0.mono hZ).c63)
 have Q4:=Hd9 (fun Z (hZ : Below V9.heap.size V9 Z) => (L.tl.tl.b0.mono hZ).c64)
 have Q5:=Hd9 (fun Z (hZ : Below V9.heap.size V9 Z) => (L.tl.tl.b0.mono hZ).c65)
 have Q6:=Hd9 (fun Z (hZ : Below V9.heap.size V9 Z) => (L.tl.b0.mono hZ).c60)
 have Q7:=Hd9 (fun Z (hZ : Below V9.heap.size V9 Z) => (L.tl.b0.mono hZ).c61)
 have Q8:=Hd9 (fun Z (hZ : Below V9.heap.size V9 Z) => (L.tl.b0.mono hZ).c62)
 have Q9:=Hd9 (fun Z (hZ : Below V9.heap.size V9 Z) => (L.tl.b0.mono hZ).c63)
 have Q10:=Hd9 (fun Z (hZ : Below V9.heap.size V9 Z) => (L.tl.b0.mono hZ).c64)
 have Q11:=Hd9 (fun Z (hZ : Below V9.heap.size V9 Z) => (L.tl.b0.mono hZ).c65)
 have hb1:=L.tl.tl.b0.lt
 have hb2:=L.tl.b0.lt
 have D0 : Dq V9 V9 [(.slice A (zl m) c, m.natAbs), (.slice B (zl n) d, n.natAbs), (.slice A2 (zl m2) k2, m2.natAbs), (.slice B2 (zl n2) d2, n2.natAbs)] [] [] []:=⟨((((Lq.mk0 V9).n (L.getN (v:=.slice B2 (zl n2) d2) (x:=(n2).natAbs) (by simp))).n (L.getN (v:=.slice A2 (zl m2) k2) (x:=(m2).natAbs) (by simp))).n (L.getN (v:=.slice B (zl n) d) (x:=(n).natAbs) (by simp))).n (L.getN (v:=.slice A (zl m) c) (x:=(m).natAbs) (by simp)), List.nodup_nil, fun p hp => by cases hp⟩
 have D:=D0.drew
 have LL:=Hd9 L
 clear L
 obtain ⟨K, hK⟩:=nm9 (V9.heap.size)
 have hz0 : K ≤ V9.heap.size:=by omega
 have hc1 : w.heap.size < K:=by omega
 have hc2 : w.heap.size + 1 < K:=by omega
 have hmd : V9.drew.heap.size = K:=hK
 go_cut [6, 7] from 8 to 22 (fun s6 s7 wx => s7 = .int .i64 er ∧ Made1I V9 M E N G s6 wx)
 case first =>
  go_region_held3 (fun w' => w'.cell? ⟨w.heap.size, 0, none⟩ = some (.bool (ng m)) ∧ w'.cell? ⟨w.heap.size, 1, none⟩ = some (.slice A (zl m) c) ∧ w'.cell? ⟨w.heap.size, 2, none⟩ = some (.int .i64 e) ∧ w'.cell? ⟨w.heap.size, 3, none⟩ = some (.bool (ng n)) ∧ w'.cell? ⟨w.heap.size, 4, none⟩ = some (.slice B (zl n) d) ∧ w'.cell? ⟨w.heap.size, 5, none⟩ = some (.int .i64 f) ∧ w'.cell? ⟨w.heap.size + 1, 0, none⟩ = some (.bool (ng m2)) ∧ w'.cell? ⟨w.heap.size + 1, 1, none⟩ = some (.slice A2 (zl m2) k2) ∧ w'.cell? ⟨w.heap.size + 1, 2, none⟩ = some (.int .i64 e2) ∧ w'.cell? ⟨w.heap.size + 1, 3, none⟩ = some (.bool (ng n2)) ∧ w'.cell? ⟨w.heap.size + 1, 4, none⟩ = some (.slice B2 (zl n2) d2) ∧ w'.cell? ⟨w.heap.size + 1, 5, none⟩ = some (.int .i64 f2)) (((try dsimp only); refine ⟨?_, ?_, ?_, ?_, ?_, ?_, ?_, ?_, ?_, ?_, ?_, ?_⟩ <;> (repeat (first | (with_reducible exact Q0.out _ D.lq.below) | (with_reducible exact Q0.out _ D0.lq.below) | (with_reducible exact Q1.out _ D.lq.below) | (with_reducible exact Q1.out _ D0.lq.below) | (with_reducible exact Q2.out _ D.lq.below) | (with_reducible exact Q2.out _ D0.lq.below) | (with_reducible exact Q3.out _ D.lq.below) | (with_reducible exact Q3.out _ D0.lq.below) | (with_reducible exact Q4.out _ D.lq.below) | (with_reducible exact Q4.out _ D0.lq.below) | (with_reducible exact Q5.out _ D.lq.below) | (with_reducible exact Q5.out _ D0.lq.below) | (with_reducible exact Q6.out _ D.lq.below) | (with_reducible exact Q6.out _ D0.lq.below) | (with_reducible exact Q7.out _ D.lq.below) | (with_reducible exact Q7.out _ D0.lq.below) | (with_reducible exact Q8.out _ D.lq.below) | (with_reducible exact Q8.out _ D0.lq.below) | (with_reducible exact Q9.out _ D.lq.below) | (with_reducible exact Q9.out _ D0.lq.below) | (with_reducible exact Q10.out _ D.lq.below) | (with_reducible exact Q10.out _ D0.lq.below) | (with_reducible exact Q11.out _ D.lq.below) | (with_reducible exact Q11.out _ D0.lq.below) | (with_reducible refine c_alloc _ ?_) | (with_reducible refine c_drew ?_) | (with_reducible refine c_set ?_ (by assumption) ?_) | omega)))) (first | (go_at_call 226; (with_reducible refine (H1.out _ _ _ ?_ ?_).mono ?_); (· (first | (with_reducible refine isD_n (D.getN ?_); (repeat (first | (with_reducible exact mS) | apply mT))) | (with_reducible refine isD_n ((D.boxI false none 0 0 0 false none 0 0 0).getN ?_); (repeat (first | (with_reducible exact mS) | apply mT))) | (with_reducible refine isD_n ((D0.boxI false none 0 0 0 false none 0 0 0).drew.getN ?_); (repeat (first | (with_reducible exact mS) | apply mT))))); (· (first | (with_reducible refine isD_n (D.getN ?_); (repeat (first | (with_reducible exact mS) | apply mT))) | (with_reducible refine isD_n ((D.boxI false none 0 0 0 false none 0 0 0).getN ?_); (repeat (first | (with_reducible exact mS) | apply mT))) | (with_reducible refine isD_n ((D0.boxI false none 0 0 0 false none 0 0 0).drew.getN ?_); (repeat (first | (with_reducible exact mS) | apply mT))))); rintro e9 wh ⟨vh, rfl, id, be⟩; obtain ⟨A8, c8, rfl, _, in9⟩:=id.form; (first | (replace D:=D.step be) | (replace D:=(D.boxMI hmd false none 0 0 0 false none 0 0 0).step be) | (replace D:=(D.boxI false none 0 0 0 false none 0 0 0).step be)); have hz:=be.size; (try simp at hz); replace D:=D.n in9; clear id in9; (try (obtain ⟨x00,x01,x02,x03,x04,x05⟩:=D.lq.b0.a6; obtain ⟨y00,y01,y02,y03,y04,y05⟩:=D.lq.b0.f6)); (try obtain ⟨na, nb, nc, nd, nl⟩:=D.n0)) | (go_at_call 225; (with_reducible refine (H2.out _ _ _ ?_ ?_).mono ?_); (· (first | (with_reducible refine isD_n (D.getN ?_); (repeat (first | (with_reducible exact mS) | apply mT))) | (with_reducible refine isD_n ((D.boxI false none 0 0 0 false none 0 0 0).getN ?_); (repeat (first | (with_reducible exact mS) | apply mT))) | (with_reducible refine isD_n ((D0.boxI false none 0 0 0 false none 0 0 0).drew.getN ?_); (repeat (first | (with_reducible exact mS) | apply mT))))); (· (first | (with_reducible refine isD_n (D.getN ?_); (repeat (first | (with_reducible exact mS) | apply mT))) | (with_reducible refine isD_n ((D.boxI false none 0 0 0 false none 0 0 0).getN ?_); (repeat (first | (with_reducible exact mS) | apply mT))) | (with_reducible refine isD_n ((D0.boxI false none 0 0 0 false none 0 0 0).drew.getN ?_); (repeat (first | (with_reducible exact mS) | apply mT))))); rintro e9 wh ⟨vh, rfl, id, be⟩; obtain ⟨A9, c9, rfl, _, in9⟩:=id.form; (first | (replace D:=D.step be) | (replace D:=(D.boxMI hmd false none 0 0 0 false none 0 0 0).step be) | (replace D:=(D.boxI false none 0 0 0 false none 0 0 0).step be)); have hz:=be.size; (try simp at hz); replace D:=D.n in9; clear id in9; (try (obtain ⟨x00,x01,x02,x03,x04,x05⟩:=D.lq.b0.a6; obtain ⟨y00,y01,y02,y03,y04,y05⟩:=D.lq.b0.f6)); (try obtain ⟨na, nb, nc, nd, nl⟩:=D.n0)) | (go_at_call 240; (with_reducible refine (HM.out _ _ _ ?_ ?_).mono ?_); (· (first | (with_reducible refine isD_n (D.getN ?_); (repeat (first | (with_reducible exact mS) | apply mT))) | (with_reducible refine isD_n ((D.boxI false none 0 0 0 false none 0 0 0).getN ?_); (repeat (first | (with_reducible exact mS) | apply mT))) | (with_reducible refine isD_n ((D0.boxI false none 0 0 0 false none 0 0 0).drew.getN ?_); (repeat (first | (with_reducible exact mS) | apply mT))))); (· (first | (with_reducible refine isD_n (D.getN ?_); (repeat (first | (with_reducible exact mS) | apply mT))) | (with_reducible refine isD_n ((D.boxI false none 0 0 0 false none 0 0 0).getN ?_); (repeat (first | (with_reducible exact mS) | apply mT))) | (with_reducible refine isD_n ((D0.boxI false none 0 0 0 false none 0 0 0).drew.getN ?_); (repeat (first | (with_reducible exact mS) | apply mT))))); rintro e9 wh ⟨vh, rfl, ii, be⟩; obtain ⟨A7, c7, B7, d7, rfl, ia, ib⟩:=ii.form; (first | (replace D:=D.step be) | (replace D:=(D.boxMI hmd false none 0 0 0 false none 0 0 0).step be) | (replace D:=(D.boxI false none 0 0 0 false none 0 0 0).step be)); have hz:=be.size; (try simp at hz); replace D:=(D.n ib).n ia; clear ii ia ib; (try (obtain ⟨x00,x01,x02,x03,x04,x05⟩:=D.lq.b0.a6; obtain ⟨y00,y01,y02,y03,y04,y05⟩:=D.lq.b0.f6)); (try obtain ⟨na, nb, nc, nd, nl⟩:=D.n0)))
  all_goals
   go_wp2_with fail
   go_meet
   refine ⟨rfl, ?_⟩
   first
   | ((with_reducible refine made1i_a D ?_ ?_) <;> (repeat (first | (with_reducible exact mS) | apply mT)))
   | ((with_reducible refine made1i_b D ?_ ?_) <;> (repeat (first | (with_reducible exact mS) | apply mT)))
 case rest =>
  obtain ⟨rfl, gm, A7, c7, B7, d7, rfl, hg, bw, hb3, q1, q2⟩:=hcut
  have hg4:=LL.out.b0.lt
  have L:=(((LL.out.step bw).n q2).n q1).b hb3
  clear D D0 hmd hz0 hK LL hb3 q1 q2 bw Q0 Q1 Q2 Q3 Q4 Q5 Q6 Q7 Q8 Q9 Q10 Q11
  have e1 : w.heap.size + 1 + 1 ≠ gm:=by omega
  generalize wc = wd at *
  have hlt9:=L.b0.lt
  replace L:=L.swap
  obtain ⟨c00,c01,c02,c03,c04,c05⟩:=L.b0.a6
  obtain ⟨f00,f01,f02,f03,f04,f05⟩:=L.b0.f6
  obtain ⟨c10,c11,c12,c13,c14,c15⟩:=L.tl.b0.a6
  go_wp2_with fail
  have LP:=L.putI (by omega) (by simp [Ne.symm e1]) (ng M) A7 (zl M) c7 E (ng N) B7 (zl N) d7 G
  obtain ⟨k0,k1,k2,k3,k4,k5⟩:=LP.b0.a6
  unfold put6 at k0 k1 k2 k3 k4 k5
  exact bodyPost_ret (v:=.tuple #[.agg #[.bool (ng M), .slice A7 (zl M) c7, .int .i64 E, .bool (ng N), .slice B7 (zl N) d7, .int .i64 G], .bool b]) (by simp [results, Tryz.results203, go_sem, k0, k1, k2, k3, k4, k5]) rfl ⟨_, rfl, isI_n (LP.getN (by simp)) (LP.getN (by simp)), LP.below⟩
def ciA (k : Nat) (L : Int) : Int:=max (-(2 ^ k)) ((L - 2 ^ 41) / 2 ^ 64)
def ciB (k : Nat) (G : Int) : Int := -(ciA k (-G))
theorem ci_margin {p q : Nat} (h : q + 41 = p) (hp : p ≤ 3000) : mkM 1 (-(q : Int)) = mkM 2199023255552 (-(p : Int)) ∧ mkE 1 (-(q : Int)) = mkE 2199023255552 (-(p : Int)) ∧ mkR 1 (-(q : Int)) = 0:=by
 obtain ⟨a1, _⟩:=nx (T:=1) (x := -(q : Int)) (j:=0) (by unfold AbP; decide) (by omega) (by omega)
 obtain ⟨b1, _⟩:=nx (T:=2199023255552) (x := -(p : Int)) (j:=41) (by unfold AbP; decide) (by omega) (by omega)
 have:=mk_uniq a1 b1 (by
  refine dq_eq (F := -(p : Int)) ?_ (by omega) (by omega)
  rw [show (-(q : Int) - -(p : Int)).toNat = 41 by omega, show (-(p : Int) - -(p : Int)).toNat = 0 by omega]
  decide)
 exact ⟨this.1, this.2, a1⟩
theorem dq_one9 (p : Nat) : dq (2 ^ p) (-(p : Int)) = 1 ∧ dq (-(2 ^ p)) (-(p : Int)) = -1:=by
 have a : dq (2 ^ p) (-(p : Int)) = 1:=by rw [dq_scale]; exact two_cast p
 exact ⟨a, by rw [dq_neg, a]⟩
theorem cut_le17 {q q' : Rat} (k : Int) (h : q ≤ q') : cutQ q k ≤ cutQ q' k:=(dq_le_iff _ _ _).1 (cut_mono (Int.le_refl k) h)
theorem ci_cut {L : Int} {k p : Nat} (hp : p = k + 64) {x : Rat} (hx : x = rmax (dq (L - 2 ^ 41) (-(p : Int))) (-1)) : cutQ x (k : Int) = ciA k L:=by
 have c1 : cutQ (dq (L - 2 ^ 41) (-(p : Int))) (k : Int) = (L - 2 ^ 41) / 2 ^ 64:=cutD_down 64 (by omega)
 have c2 : cutQ (-1) (k : Int) = -(2 ^ k):=by rw [← (dq_one9 k).2]; exact cut_self _ _
 unfold ciA
 rw [hx]
 unfold rmax
 split
 ·next h =>
  have:=cut_le17 (k : Int) h
  rw [c1, c2] at this
  rw [c2]
  omega
 ·next h =>
  have:=cut_le17 (k : Int) (Rat.le_of_lt (Rat.not_le.1 h))
  rw [c1, c2] at this
  rw [c1]
  omega
theorem rmax_neg (a b : Rat) : -(rmin a b) = rmax (-a) (-b):=by
 unfold rmin rmax
 split <;> split <;> grind
theorem ci_cutB {G : Int} {k p : Nat} (hp : p = k + 64) {x : Rat} (hx : x = rmin (dq (G + 2 ^ 41) (-(p : Int))) 1) : -(cutQ (-x) (k : Int)) = ciB k G:=by
 unfold ciB
 congr 1
 refine ci_cut hp ?_
 rw [hx, rmax_neg, ← dq_neg, show -(G + 2 ^ 41) = -G - 2 ^ 41 by omega]
theorem ciA_ab {k p : Nat} {L : Int} (hp : p = k + 64) (h : L.natAbs ≤ 2 ^ (p + 1)) : AbP (ciA k L) (k + 2):=by
 have e1 : (2 : Nat) ^ (p + 1) = 2 ^ k * 36893488147419103232:=by rw [hp, show k + 64 + 1 = k + 65 by omega, Nat.pow_add]
 have e2 : (2 : Nat) ^ (k + 2) = 2 ^ k * 4:=by rw [Nat.pow_add]
 have pp : 0 < (2 : Nat) ^ k:=Nat.pow_pos (by omega)
 have e3 : ((2 ^ k : Nat) : Int) = 2 ^ k:=by push_cast; rfl
 have e4 : (2 : Int) ^ 64 = 18446744073709551616:=rfl
 have e5 : (2 : Int) ^ 41 = 2199023255552:=rfl
 unfold AbP ciA
 rw [e1] at h
 rw [e2, ← e3, e4, e5]
 generalize (2 : Nat) ^ k = P at *
 omega

theorem yaround_any (X Y : Int) (k p : Nat) (vx vy : Value) (w : World) (hx : IsD w vx (mkM X (-(p : Int))) (mkE X (-(p : Int)))) (hy : IsD w vy (mkM Y (-(p : Int))) (mkE Y (-(p : Int)))) (h1 : X.natAbs ≤ 2 ^ (p + 1)) (h2 : Y.natAbs ≤ 2 ^ (p + 1)) (hle : X - 2199023255552 ≤ Y + 2199023255552) (hx1 : X - 2199023255552 ≤ 2 ^ p) (hy1 : -(2 ^ p) ≤ Y + 2199023255552) (hp : p = k + 64) (hk : k ≤ 176) (hT : Tab w) :
  Calls Tryz.prog 147 #[vx, vy, .int .i64 (k : Int)] w (RetIE w (mkM (ciA k X) (-(k : Int))) (mkE (ciA k X) (-(k : Int))) (mkM (ciB k Y) (-(k : Int))) (mkE (ciB k Y) (-(k : Int))) 0):=by
 obtain ⟨A, c, rfl, _, hn⟩:=hx.form
 obtain ⟨B, d, rfl, _, hn2⟩:=hy.form
 have L0:=((Lq.mk0 w).n hn2).n hn
 obtain ⟨q, hq⟩:=nm9 (k + 23)
 obtain ⟨u1, u2, u3⟩:=ci_margin (p:=p) (q:=q) (by omega) (by omega)
 obtain ⟨y1, y2, y3⟩:=g_yes (permN (p:=q) (by omega)) 1
 have g1:=fun W (hW : Below w.heap.size w W) => gunit_any (q : Int) W (by omega) (by omega) (hT.mono hW)
 rw [y1, y2, y3, u1, u2, u3] at g1
 have w1 : IntKind.i64.wrap ((k : Int) + 64) = (p : Int):=by rw [IntKind.wrap_i64]; omega
 have w2 : IntKind.i64.wrap ((p : Int) - 41) = (q : Int):=by rw [IntKind.wrap_i64]; omega
 have aX : AbP X (p + 1):=h1
 have aY : AbP Y (p + 1):=h2
 have aM : AbP 2199023255552 (p + 1):=AbP.up (j:=42) (by unfold AbP; decide) (by omega)
 obtain ⟨r1, r2, r3, r4, r5⟩:=nx (x := -(p : Int)) aX (by omega) (by omega)
 obtain ⟨s1, s2, s3, s4, s5⟩:=nx (x := -(p : Int)) aY (by omega) (by omega)
 obtain ⟨t1, t2, t3, t4, t5⟩:=nx (x := -(p : Int)) aM (by omega) (by omega)
 obtain ⟨b1, b2, b3⟩:=nx_sub (x := -(p : Int)) aX aM (by omega) (by omega)
 have g2:=fun x y W h i (hW : Below w.heap.size w W) => dsub_any (mkM X (-(p : Int))) (mkE X (-(p : Int))) (mkM 2199023255552 (-(p : Int))) (mkE 2199023255552 (-(p : Int))) x y W h i (by omega) (by omega) (by omega) (by omega) (hT.mono hW)
 rw [b1, b2, b3] at g2
 obtain ⟨c1', c2', c3'⟩:=nx_add (x := -(p : Int)) aY aM (by omega) (by omega)
 have g3:=fun x y W h i (hW : Below w.heap.size w W) => dadd_any (mkM Y (-(p : Int))) (mkE Y (-(p : Int))) (mkM 2199023255552 (-(p : Int))) (mkE 2199023255552 (-(p : Int))) x y W h i (by omega) (by omega) (by omega) (by omega) (hT.mono hW)
 rw [c1', c2', c3'] at g3
 have al : AbP (X - 2199023255552) (p + 2):=by rw [Int.sub_eq_add_neg]; exact aX.add aM.neg
 have ah : AbP (Y + 2199023255552) (p + 2):=aY.add aM
 obtain ⟨l1, l2, l3, l4, l5⟩:=nx (x := -(p : Int)) al (by omega) (by omega)
 obtain ⟨m1, m2, m3, m4, m5⟩:=nx (x := -(p : Int)) ah (by omega) (by omega)
 have g4:=fun W (hW : Below w.heap.size w W) => dof_any (-1) W (by omega) (by omega) (hT.mono hW)
 have g5:=fun W (hW : Below w.heap.size w W) => dof_any 1 W (by omega) (by omega) (hT.mono hW)
 have o1 : mkM (-1) 0 = -1 ∧ mkE (-1) 0 = 0:=by constructor <;> decide +kernel
 have o2 : mkM 1 0 = 1 ∧ mkE 1 0 = 0:=by constructor <;> decide +kernel
 rw [o1.1, o1.2] at g4
 rw [o2.1, o2.2] at g5
 have z11 : zl 1 ≤ 1:=len_le1 (show 1 < 4294967296 by omega)
 have z12 : zl (-1) ≤ 1:=len_le1 (show (-1 : Int).natAbs < 4294967296 by decide)
 have d1 : dq (-1) 0 = -1:=by decide +kernel
 have d2 : dq 1 0 = 1:=by decide +kernel
 have v1 : Dv 1 0:=by have:=mk_ok (m:=1) (e:=0) (by decide +kernel); rwa [o2.1, o2.2] at this
 have v2 : Dv (-1) 0:=by have:=mk_ok (m := -1) (e:=0) (by decide +kernel); rwa [o1.1, o1.2] at this
 have ones:=dq_one9 p
 have le1 : dq (X - 2199023255552) (-(p : Int)) ≤ 1:=by rw [← ones.1]; exact (dq_le_iff _ _ _).2 hx1
 have le2 : -1 ≤ dq (Y + 2199023255552) (-(p : Int)):=by rw [← ones.2]; exact (dq_le_iff _ _ _).2 hy1
 have le3 : dq (X - 2199023255552) (-(p : Int)) ≤ dq (Y + 2199023255552) (-(p : Int)):=(dq_le_iff _ _ _).2 (by omega)
 have hm : mtB (mkM (X - 2199023255552) (-(p : Int))) (mkE (X - 2199023255552) (-(p : Int))) (mkM (Y + 2199023255552) (-(p : Int))) (mkE (Y + 2199023255552) (-(p : Int))) (-1) 0 1 0 = true:=by
  unfold mtB
  rw [decide_eq_true_iff, dcm_le, gst_max, lst_min, l5, m5, d1, d2]
  unfold rmax rmin
  have : (-1 : Rat) ≤ 1:=by decide
  split <;> split <;> assumption
 have g6:=fun x y W h i => i10meet_any (mkM (X - 2199023255552) (-(p : Int))) (mkE (X - 2199023255552) (-(p : Int))) (mkM (Y + 2199023255552) (-(p : Int))) (mkE (Y + 2199023255552) (-(p : Int))) (-1) 0 1 0 x y W h i (by omega) (by omega) (by omega) (by omega) (by omega) (by omega) (by omega) (by omega) l4 m4 v2 v1
 unfold RetMt at g6
 simp only [hm, if_true] at g6
 have gm:=gst_max (mkM (X - 2199023255552) (-(p : Int))) (mkE (X - 2199023255552) (-(p : Int))) (-1) 0
 have lm:=lst_min (mkM (Y + 2199023255552) (-(p : Int))) (mkE (Y + 2199023255552) (-(p : Int))) 1 0
 rw [l5, d1] at gm
 rw [m5, d2] at lm
 have gz:=gstD_zl (m:=mkM (X - 2199023255552) (-(p : Int))) (e:=mkE (X - 2199023255552) (-(p : Int))) (n := -1) (f:=0) (k:=500) (by omega) (by omega)
 have lz:=lstD_zl (m:=mkM (Y + 2199023255552) (-(p : Int))) (e:=mkE (Y + 2199023255552) (-(p : Int))) (n:=1) (f:=0) (k:=500) (by omega) (by omega)
 have gi:=gstD_in (m:=mkM (X - 2199023255552) (-(p : Int))) (e:=mkE (X - 2199023255552) (-(p : Int))) (n := -1) (f:=0) (a := -5000) (b:=5000) (by omega) (by omega)
 have li:=lstD_in (m:=mkM (Y + 2199023255552) (-(p : Int))) (e:=mkE (Y + 2199023255552) (-(p : Int))) (n:=1) (f:=0) (a := -5000) (b:=5000) (by omega) (by omega)
 obtain ⟨Xg, hXg⟩:=nm9 ((gstD (mkM (X - 2199023255552) (-(p : Int))) (mkE (X - 2199023255552) (-(p : Int))) (-1) 0).1)
 obtain ⟨Fg, hFg⟩:=nm9 ((gstD (mkM (X - 2199023255552) (-(p : Int))) (mkE (X - 2199023255552) (-(p : Int))) (-1) 0).2)
 obtain ⟨Xl, hXl⟩:=nm9 ((lstD (mkM (Y + 2199023255552) (-(p : Int))) (mkE (Y + 2199023255552) (-(p : Int))) 1 0).1)
 obtain ⟨Fl, hFl⟩:=nm9 ((lstD (mkM (Y + 2199023255552) (-(p : Int))) (mkE (Y + 2199023255552) (-(p : Int))) 1 0).2)
 rw [hXg, hFg, hXl, hFl] at g6
 rw [hXg, hFg] at gm
 rw [hXl, hFl] at lm
 rw [hXg] at gz
 rw [hFg] at gi
 rw [hXl] at lz
 rw [hFl] at li
 have cA:=ci_cut hp gm
 have cB:=ci_cutB hp lm
 have aA:=ciA_ab hp h1
 have aB : AbP (ciB k Y) (k + 2):=(ciA_ab hp (show (-Y).natAbs ≤ 2 ^ (p + 1) by omega)).neg
 obtain ⟨i1, _⟩:=nx (x := -(k : Int)) aA (by omega) (by omega)
 obtain ⟨j1, _⟩:=nx (x := -(k : Int)) aB (by omega) (by omega)
 have g7:=fun x W h (hW : Below w.heap.size w W) => i10out_yes Xg Fg Xl Fl (k : Int) x W h (by omega) (by omega) (by omega) (by omega) (by omega) (by omega) (permN (p:=k) (by omega)) (by rw [cA]; exact i1) (by rw [cB]; exact j1) (hT.mono hW)
 rw [cA, cB] at g7
 clear u1 u2 u3 y1 y2 y3 aX aY aM r1 r2 r3 r4 r5 s1 s2 s3 s4 s5 t1 t2 t3 t4 t5 b1 b2 b3 c1' c2' c3' al ah l1 l2 l3 l4 l5 m1 m2 m3 m4 m5 o1 o2 z11 z12 d1 d2 v1 v2 ones le1 le2 le3 hm gm lm gz lz gi li hXg hFg hXl hFl cA cB aA aB i1 j1 hx hy hn hn2 h1 h2 hle hx1 hy1 hT hq hp hk
 generalize mkM (ciA k X) (-(k : Int)) = Ma at *
 generalize mkE (ciA k X) (-(k : Int)) = Ea at *
 generalize mkM (ciB k Y) (-(k : Int)) = Mb at *
 generalize mkE (ciB k Y) (-(k : Int)) = Eb at *
 generalize mkM (X - 2199023255552) (-(p : Int)) = Mo at *
 generalize mkE (X - 2199023255552) (-(p : Int)) = Eo at *
 generalize mkM (Y + 2199023255552) (-(p : Int)) = Mi at *
 generalize mkE (Y + 2199023255552) (-(p : Int)) = Ei at *
 generalize mkM X (-(p : Int)) = M1 at *
 generalize mkE X (-(p : Int)) = E1 at *
 generalize mkM Y (-(p : Int)) = M2 at *
 generalize mkE Y (-(p : Int)) = E2 at *
 generalize mkM 2199023255552 (-(p : Int)) = Mu at *
 generalize mkE 2199023255552 (-(p : Int)) = Eu at *
 have G1:=Hd9 g1
 have G2:=Hd9 g2
 have G3:=Hd9 g3
 have G4:=Hd9 g4
 have G5:=Hd9 g5
 have G6:=Hd9 g6
 have G7:=Hd9 g7
 clear g1 g2 g3 g4 g5 g6 g7
 go_enter Tryz.func147, Tryz.ntmps147
 have L:=(((L0.varD (w.heap.size) (by simp) (ng M1) A (zl M1) c E1).varD (w.heap.size + 1) (by simp) (ng M2) B (zl M2) d E2).varI (w.heap.size + 2) (by simp) false none 0 0 0 false none 0 0 0)
 obtain ⟨c20,c21,c22⟩:=L.tl.tl.b0.a3
 (try go_wp2_with fail)
 refine (G1.out _ L.below).mono ?_
 rintro e w1 ⟨v9, rfl, iz, be⟩
 clear c20 c21 c22
 obtain ⟨A4, c4, rfl, _, in9⟩:=iz.form
 replace L:=(L.step be).n in9
 clear be iz in9
 have hl9:=L.b0.lt
 replace L:=L.varD w1.heap.size rfl (ng Mu) A4 (zl Mu) c4 Eu
 obtain ⟨c00,c01,c02⟩:=L.b0.a3
 obtain ⟨c30,c31,c32⟩:=L.tl.tl.tl.b0.a3
 (try go_wp2_with fail)
 clear c00 c01 c02 c30 c31 c32
 obtain ⟨gm, hgm⟩:=nm9 (w1.heap.size)
 rw [hgm] at L hl9 ⊢
 clear hgm
 have hl_gm:=hl9
 clear hl9
 refine (G2.out _ _ _ (isD_n (m:=M1) (e:=E1) (s:=.slice A (zl M1) c) (L.getN (by simp))) (isD_n (m:=Mu) (e:=Eu) (s:=.slice A4 (zl Mu) c4) (L.getN (by simp))) L.below).mono ?_
 rintro e w2 ⟨v9, rfl, iz, be⟩
 obtain ⟨A5, c5, rfl, _, in9⟩:=iz.form
 replace L:=(L.step be).n in9
 clear be iz in9
 have hl9:=L.b0.lt
 replace L:=L.varD w2.heap.size rfl (ng Mo) A5 (zl Mo) c5 Eo
 obtain ⟨c10,c11,c12⟩:=L.tl.b0.a3
 obtain ⟨c30,c31,c32⟩:=L.tl.tl.tl.b0.a3
 (try go_wp2_with fail)
 clear c10 c11 c12 c30 c31 c32
 obtain ⟨gl, hgl⟩:=nm9 (w2.heap.size)
 rw [hgl] at L hl9 ⊢
 clear hgl
 have hl_gl:=hl9
 clear hl9
 refine (G3.out _ _ _ (isD_n (m:=M2) (e:=E2) (s:=.slice B (zl M2) d) (L.getN (by simp))) (isD_n (m:=Mu) (e:=Eu) (s:=.slice A4 (zl Mu) c4) (L.getN (by simp))) L.below).mono ?_
 rintro e w3 ⟨v9, rfl, iz, be⟩
 obtain ⟨A6, c6, rfl, _, in9⟩:=iz.form
 replace L:=(L.step be).n in9
 clear be iz in9
 have hl9:=L.b0.lt
 replace L:=L.varD w3.heap.size rfl (ng Mi) A6 (zl Mi) c6 Ei
 (try go_wp2_with fail)
 obtain ⟨gh, hgh⟩:=nm9 (w3.heap.size)
 rw [hgh] at L hl9 ⊢
 clear hgh
 have hl_gh:=hl9
 clear hl9
 obtain ⟨V, hV, L9⟩:=L.name
 rw [hV]
 clear hV L
 have L:=L9
 clear L9
 have Q0:=Hd9 (fun Z (hZ : Below V.heap.size V Z) => (L.b0.mono hZ).c30)
 have Q1:=Hd9 (fun Z (hZ : Below V.heap.size V Z) => (L.b0.mono hZ).c31)
 have Q2:=Hd9 (fun Z (hZ : Below V.heap.size V Z) => (L.b0.mono hZ).c32)
 have Q3:=Hd9 (fun Z (hZ : Below V.heap.size V Z) => (L.tl.b0.mono hZ).c30)
 have Q4:=Hd9 (fun Z (hZ : Below V.heap.size V Z) => (L.tl.b0.mono hZ).c31)
 have Q5:=Hd9 (fun Z (hZ : Below V.heap.size V Z) => (L.tl.b0.mono hZ).c32)
 have hb0:=L.b0.lt
 have hb1:=L.tl.b0.lt
 have hb2:=L.tl.tl.tl.b0.lt
 have D0 : Dq V V [(.slice A6 (zl Mi) c6, (Mi : Int).natAbs), (.slice A5 (zl Mo) c5, (Mo : Int).natAbs)] [] [] []:=⟨(((Lq.mk0 V).n (L.getN (v:=.slice A5 (zl Mo) c5) (x:=(Mo : Int).natAbs) (by simp))).n (L.getN (v:=.slice A6 (zl Mi) c6) (x:=(Mi : Int).natAbs) (by simp))), List.nodup_nil, fun p hp => by cases hp⟩
 have D:=D0.drew
 have hVw:=L.below.size
 have HVW:=Hd9 (fun Z (hZ : Below V.heap.size V Z) => L.below.trans (hZ.mono hVw))
 have LL:=Hd9 L
 clear L
 obtain ⟨K, hK⟩:=nm9 (V.heap.size)
 have hz0 : K ≤ V.heap.size:=by omega
 have hmd : V.drew.heap.size = K:=hK
 have hc0 : gh < K:=by omega
 have hc1 : gl < K:=by omega
 have hc2 : w.heap.size + 1 + 1 < K:=by omega
 go_cut [14, 15] from 35 to 44 (fun s0 s1 wx => s1 = .bool true ∧ Made1I V Xg Fg Xl Fl s0 wx)
 case first =>
  go_region_held3 (fun w' => w'.cell? ⟨gh, 0, none⟩ = some (.bool (ng Mi)) ∧ w'.cell? ⟨gh, 1, none⟩ = some (.slice A6 (zl Mi) c6) ∧ w'.cell? ⟨gh, 2, none⟩ = some (.int .i64 Ei) ∧ w'.cell? ⟨gl, 0, none⟩ = some (.bool (ng Mo)) ∧ w'.cell? ⟨gl, 1, none⟩ = some (.slice A5 (zl Mo) c5) ∧ w'.cell? ⟨gl, 2, none⟩ = some (.int .i64 Eo)) (((try dsimp only); refine ⟨?_, ?_, ?_, ?_, ?_, ?_⟩ <;> (repeat (first | (with_reducible exact Q0.out _ D.lq.below) | (with_reducible exact Q0.out _ D0.lq.below) | (with_reducible exact Q1.out _ D.lq.below) | (with_reducible exact Q1.out _ D0.lq.below) | (with_reducible exact Q2.out _ D.lq.below) | (with_reducible exact Q2.out _ D0.lq.below) | (with_reducible exact Q3.out _ D.lq.below) | (with_reducible exact Q3.out _ D0.lq.below) | (with_reducible exact Q4.out _ D.lq.below) | (with_reducible exact Q4.out _ D0.lq.below) | (with_reducible exact Q5.out _ D.lq.below) | (with_reducible exact Q5.out _ D0.lq.below) | (with_reducible refine c_alloc _ ?_) | (with_reducible refine c_drew ?_) | (with_reducible refine c_set ?_ (by assumption) ?_) | omega)))) (first | (go_at_call 111; (with_reducible refine (G4.out _ ?_).mono ?_); (· (first | (with_reducible exact HVW.out _ D.lq.below) | (with_reducible exact HVW.out _ (D.boxI false none 0 0 0 false none 0 0 0).lq.below) | (with_reducible exact HVW.out _ (D0.boxI false none 0 0 0 false none 0 0 0).drew.lq.below))); rintro e9 wh ⟨vh, rfl, id, be⟩; obtain ⟨A7, c7, rfl, _, in9⟩:=id.form; (first | (replace D:=D.step be) | (replace D:=(D.boxMI hmd false none 0 0 0 false none 0 0 0).step be) | (replace D:=(D.boxI false none 0 0 0 false none 0 0 0).step be)); have hz:=be.size; (try simp at hz); replace D:=D.n in9; (try (obtain ⟨x00,x01,x02,x03,x04,x05⟩:=D.lq.b0.a6; obtain ⟨y00,y01,y02,y03,y04,y05⟩:=D.lq.b0.f6)); (try obtain ⟨na, nb, nc, nd, nl⟩:=D.n0)) | (go_at_call 111; (with_reducible refine (G5.out _ ?_).mono ?_); (· (first | (with_reducible exact HVW.out _ D.lq.below) | (with_reducible exact HVW.out _ (D.boxI false none 0 0 0 false none 0 0 0).lq.below) | (with_reducible exact HVW.out _ (D0.boxI false none 0 0 0 false none 0 0 0).drew.lq.below))); rintro e9 wh ⟨vh, rfl, id, be⟩; obtain ⟨A8, c8, rfl, _, in9⟩:=id.form; (first | (replace D:=D.step be) | (replace D:=(D.boxMI hmd false none 0 0 0 false none 0 0 0).step be) | (replace D:=(D.boxI false none 0 0 0 false none 0 0 0).step be)); have hz:=be.size; (try simp at hz); replace D:=D.n in9; (try (obtain ⟨x00,x01,x02,x03,x04,x05⟩:=D.lq.b0.a6; obtain ⟨y00,y01,y02,y03,y04,y05⟩:=D.lq.b0.f6)); (try obtain ⟨na, nb, nc, nd, nl⟩:=D.n0)) | (go_at_call 203; (with_reducible refine (G6.out _ _ _ ?_ ?_).mono ?_); (· (first | (with_reducible refine isI_n (D.getN ?_) (D.getN ?_) <;> (repeat (first | (with_reducible exact mS) | apply mT))) | (with_reducible refine isI_n ((D.boxI false none 0 0 0 false none 0 0 0).getN ?_) ((D.boxI false none 0 0 0 false none 0 0 0).getN ?_) <;> (repeat (first | (with_reducible exact mS) | apply mT))) | (with_reducible refine isI_n ((D0.boxI false none 0 0 0 false none 0 0 0).drew.getN ?_) ((D0.boxI false none 0 0 0 false none 0 0 0).drew.getN ?_) <;> (repeat (first | (with_reducible exact mS) | apply mT))))); (· (first | (with_reducible refine isI_n (D.getN ?_) (D.getN ?_) <;> (repeat (first | (with_reducible exact mS) | apply mT))) | (with_reducible refine isI_n ((D.boxI false none 0 0 0 false none 0 0 0).getN ?_) ((D.boxI false none 0 0 0 false none 0 0 0).getN ?_) <;> (repeat (first | (with_reducible exact mS) | apply mT))) | (with_reducible refine isI_n ((D0.boxI false none 0 0 0 false none 0 0 0).drew.getN ?_) ((D0.boxI false none 0 0 0 false none 0 0 0).drew.getN ?_) <;> (repeat (first | (with_reducible exact mS) | apply mT))))); rintro e9 wh ⟨vh, rfl, ii, be⟩; obtain ⟨A9, c9, B9, d9, rfl, ia, ib⟩:=ii.form; (first | (replace D:=D.step be) | (replace D:=(D.boxMI hmd false none 0 0 0 false none 0 0 0).step be) | (replace D:=(D.boxI false none 0 0 0 false none 0 0 0).step be)); have hz:=be.size; (try simp at hz); replace D:=(D.n ib).n ia; (try (obtain ⟨x00,x01,x02,x03,x04,x05⟩:=D.lq.b0.a6; obtain ⟨y00,y01,y02,y03,y04,y05⟩:=D.lq.b0.f6)); (try obtain ⟨na, nb, nc, nd, nl⟩:=D.n0)))
  all_goals
   go_wp2_with fail
   go_meet
   refine ⟨rfl, ?_⟩
   first
   | ((with_reducible refine made1i_a D ?_ ?_) <;> (repeat (first | (with_reducible exact mS) | apply mT)))
   | ((with_reducible refine made1i_b D ?_ ?_) <;> (repeat (first | (with_reducible exact mS) | apply mT)))
 case rest =>
  obtain ⟨rfl, g5, Aa, ca, Ba, da, rfl, hg9, bw, hb9, q1, q2⟩:=hcut
  have L:=(((LL.out.step bw).n q2).n q1).b hb9
  have hl_g5:=hg9
  clear D D0 hmd LL hb9 q1 q2 bw hg9 HVW Q0 Q1 Q2 Q3 Q4 Q5 hc0 hc1 hc2
  generalize wc = wd3 at *
  obtain ⟨c00,c01,c02,c03,c04,c05⟩:=L.b0.a6
  (try go_wp2_with fail)
  refine (G7.out _ _ (isI_n (m:=Xg) (e:=Fg) (n:=Xl) (f:=Fl) (s:=.slice Aa (zl Xg) ca) (t:=.slice Ba (zl Xl) da) (L.getN (by simp)) (L.getN (by simp))) L.below).mono ?_
  rintro e w5 ⟨v9, rfl, ii, be⟩
  clear c00 c01 c02 c03 c04 c05
  obtain ⟨Ab9, cb, Bb, db, rfl, ia, ib⟩:=ii.form
  replace L:=((L.step be).n ib).n ia
  clear be ii ia ib
  have L9:=L.subx (ns':=[(.slice Ab9 (zl Ma) cb, Ma.natAbs), (.slice Bb (zl Mb) db, Mb.natAbs)]) (bs':=[(w.heap.size + 1 + 1, 28, #[.bool false, .slice none 0 0, .int .i64 0, .bool false, .slice none 0 0, .int .i64 0])]) (by simp) (by simp)
  clear L
  have L:=L9
  clear L9
  obtain ⟨c00,c01,c02,c03,c04,c05⟩:=L.b0.a6
  obtain ⟨f00,f01,f02,f03,f04,f05⟩:=L.b0.f6
  (try go_wp2_with fail)
  clear c00 f00 c01 f01 c02 f02 c03 f03 c04 f04 c05 f05
  have LP:=L.putI (by omega) (by first | (simp; done) | (simp; omega)) (ng Ma) Ab9 (zl Ma) cb Ea (ng Mb) Bb (zl Mb) db Eb
  obtain ⟨k0,k1,k2,k3,k4,k5⟩:=LP.b0.a6
  unfold put6 at k0 k1 k2 k3 k4 k5
  exact bodyPost_ret (v:=.tuple #[.agg #[.bool (ng Ma), .slice Ab9 (zl Ma) cb, .int .i64 Ea, .bool (ng Mb), .slice Bb (zl Mb) db, .int .i64 Eb], .int .i64 0]) (by simp [results, Tryz.results147, go_sem, k0, k1, k2, k3, k4, k5]) rfl ⟨_, rfl, isI_n (LP.getN (by simp)) (LP.getN (by simp)), LP.below⟩
structure CiOk (q : Int) (k : Nat) (d1 d2 : Rat) (A B : Int) : Prop where
 lo : LoB q k d1 d2 A
 hi : LoB (q + 2) k d1 d2 (-B)
 ab : AbP A (k + 2) ∧ AbP B (k + 2)
theorem va_flip {p : Nat} {t R V : Int} (h : Va p t R V) : Va p (t + 2) R (-V):=by
 unfold Va at *
 rw [rts_flip, Rat.intCast_neg]
 have:=h.neg
 rw [show -((V : Rat) * hn p - rts t (cosQ ((R : Rat) * hn p)) (sinQ ((R : Rat) * hn p))) = -(V : Rat) * hn p - -rts t (cosQ ((R : Rat) * hn p)) (sinQ ((R : Rat) * hn p)) by grind] at this
 exact this
theorem pass_two (n1 n2 : Int) : pass 3 (n1 + 2) (n2 + 2) = pass 1 n1 n2:=by
 unfold pass
 congr 1
 refine propext ⟨fun h => by omega, fun h => by omega⟩
theorem rts_one (k : Int) {c s e : Rat} (h1 : Ab c e) (h2 : Ab s e) : Ab (rts k c s) e:=by
 have:=rts_ab k (c:=c) (s:=s) (c':=0) (s':=0) (e:=e) (by rw [show c - 0 = c by grind]; exact h1) (by rw [show s - 0 = s by grind]; exact h2)
 have z : rts k (0 : Rat) 0 = 0:=by
  unfold rts
  split
  ·rfl
  ·split
   ·rfl
   ·split <;> decide
 rw [z] at this
 rwa [show rts k c s - 0 = rts k c s by grind] at this
theorem va_bd {p : Nat} {t R V : Int} (h : Va p t R V) (hR : R.natAbs ≤ 2 ^ p) (hp : p ≤ 240) : V ≤ 2 ^ p + 2000000000000 ∧ -(2 ^ p) - 2000000000000 ≤ V:=by
 have r1:=cast_abs hR
 have big:=two_big
 have o:=pow_hn p
 have h0:=hn_pos p
 have se:=small_units (show p ≤ 300 by omega)
 have rb : Ab ((R : Rat) * hn p) (2 * bigQ):=r1.le (by grind)
 have f:=rts_one t (co_ab rb) (si_ab rb)
 unfold Va at h
 have e0:=eta_pos
 constructor
 ·refine int_of_hn p ?_
  rw [Rat.intCast_add, show ((2000000000000 : Int) : Rat) = 2000000000000 from rfl, show ((((2 : Int) ^ p : Int) : Rat) + 2000000000000) * hn p = (((2 : Int) ^ p : Int) : Rat) * hn p + 2000000000000 * hn p by grind, o]
  have q:=se.1
  clear se rb r1 big
  generalize rts t (cosQ ((R : Rat) * hn p)) (sinQ ((R : Rat) * hn p)) = z at *
  generalize eta = et at *
  generalize hn p = u at *
  unfold Ab at *
  grind
 ·refine int_of_hn p ?_
  rw [Rat.intCast_sub, Rat.intCast_neg, show ((2000000000000 : Int) : Rat) = 2000000000000 from rfl, show (-(((2 : Int) ^ p : Int) : Rat) - 2000000000000) * hn p = -((((2 : Int) ^ p : Int) : Rat) * hn p) - 2000000000000 * hn p by grind, o]
  have q:=se.1
  clear se rb r1 big
  generalize rts t (cosQ ((R : Rat) * hn p)) (sinQ ((R : Rat) * hn p)) = z at *
  generalize eta = et at *
  generalize hn p = u at *
  unfold Ab at *
  grind
theorem ey_bd {p : Nat} {t1 R1 t2 R2 : Int} (h1 : R1.natAbs ≤ 2 ^ p) (h2 : R2.natAbs ≤ 2 ^ p) (hp : p ≤ 240) (hp2 : 64 ≤ p) :
  (eyL p t1 R1 t2 R2).natAbs ≤ 2 ^ (p + 1) ∧ (eyG p t1 R1 t2 R2).natAbs ≤ 2 ^ (p + 1) ∧ eyL p t1 R1 t2 R2 - 2199023255552 ≤ eyG p t1 R1 t2 R2 + 2199023255552 ∧ eyL p t1 R1 t2 R2 - 2199023255552 ≤ 2 ^ p ∧ -(2 ^ p) ≤ eyG p t1 R1 t2 R2 + 2199023255552:=by
 have a:=diI_ok t1 h1 hp hp2
 have b:=diI_ok t2 h2 hp hp2
 have c:=va_bd a.1 h1 hp
 have d:=va_bd b.1 h2 hp
 have e : ((2 ^ p : Nat) : Int) = 2 ^ p:=by push_cast; rfl
 have e1 : (2 : Nat) ^ (p + 1) = 2 * 2 ^ p:=by rw [Nat.pow_succ]; omega
 have a2:=a.2
 have b2:=b.2
 rw [e1] at a2 b2 ⊢
 unfold eyL eyG
 generalize diI p t1 R1 = V1 at *
 generalize diI p t2 R2 = V2 at *
 clear a b
 split <;> split <;> omega
theorem ci_ok {q : Int} {k p : Nat} {d1 d2 : Rat} {K1 A1 B1 K2 A2 B2 : Int} (hp : p = k + 64) (hk : k ≤ 176) (r1 : RdO p d1 K1 A1 B1) (r2 : RdO p d2 K2 A2 B2) :
  CiOk q k d1 d2 (ciA k (eyL p (K1 + q) A1 (K2 + q) A2)) (ciB k (eyG p (K1 + q) A1 (K2 + q) A2)):=by
 have v1:=(diI_ok (K1 + q) r1.ab.1 (show p ≤ 240 by omega) (by omega)).1
 have v2:=(diI_ok (K2 + q) r2.ab.1 (show p ≤ 240 by omega) (by omega)).1
 have bd:=ey_bd (p:=p) (t1:=K1 + q) (t2:=K2 + q) r1.ab.1 r2.ab.1 (by omega) (by omega)
 refine ⟨lo_ok hp (by omega) r1.dir r2.dir v1 v2 ?_, ?_, ciA_ab hp bd.1, (ciA_ab hp (show (-(eyG p (K1 + q) A1 (K2 + q) A2)).natAbs ≤ 2 ^ (p + 1) by omega)).neg⟩
 ·unfold eyL exN1 exN2; rfl
 ·have w1:=va_flip v1
  have w2:=va_flip v2
  rw [show K1 + q + 2 = K1 + (q + 2) by omega] at w1
  rw [show K2 + q + 2 = K2 + (q + 2) by omega] at w2
  have:=lo_ok (q:=q + 2) hp (by omega) r1.dir r2.dir w1 w2 (L := -(eyG p (K1 + q) A1 (K2 + q) A2)) (by
   rw [show K1 + (q + 2) + (if 0 < A1 then 1 else 0) = (K1 + q + (if 0 < A1 then 1 else 0)) + 2 by omega, show K2 + (q + 2) - (if A2 < 0 then 1 else 0) = (K2 + q - (if A2 < 0 then 1 else 0)) + 2 by omega, pass_two]
   unfold eyG exN1 exN2
   cases pass 1 (K1 + q + (if 0 < A1 then 1 else 0)) (K2 + q - (if A2 < 0 then 1 else 0))
   ·simp only [Bool.false_eq_true, if_false]; omega
   ·simp only [if_true])
  unfold ciB ciA
  rw [Int.neg_neg]
  exact this

section
variable {w0 w : World} {ns : List (Value × Nat)} {zs : List (Value × Int)} {qs : List (Value × Int × Nat)} {bs : List (Nat × TypeId × Array Value)}
theorem Dq.boxX (h : Dq w0 w ns zs qs bs) (t : Int) (b : Bool) (A : Option Addr) (n c : Nat) (e p : Int) : Dq w0 (w.alloc (.cells #[.int .i64 t, .bool b, .slice A n c, .int .i64 e, .int .i64 p] 150)) ns zs qs ((w.heap.size, 150, #[.int .i64 t, .bool b, .slice A n c, .int .i64 e, .int .i64 p]) :: bs):=by
 refine ⟨h.lq.varDi w.heap.size rfl t b A n c e p, ?_, fun p hp => ?_⟩
 ·rw [List.map_cons, List.nodup_cons]
  refine ⟨fun hm => ?_, h.nodup⟩
  obtain ⟨p, hp, e⟩:=List.mem_map.1 hm
  have:=(h.lq.bs p hp).lt
  omega
 ·rcases List.mem_cons.1 hp with rfl | hp
  ·exact h.lq.below.size
  ·exact h.ge p hp
theorem Dq.boxMX (h : Dq w0 w ns zs qs bs) {k : Nat} (hk : w.heap.size = k) (t : Int) (b : Bool) (A : Option Addr) (n c : Nat) (e p : Int) : Dq w0 (w.alloc (.cells #[.int .i64 t, .bool b, .slice A n c, .int .i64 e, .int .i64 p] 150)) ns zs qs ((k, 150, #[.int .i64 t, .bool b, .slice A n c, .int .i64 e, .int .i64 p]) :: bs):=by
 subst hk; exact h.boxX t b A n c e p
theorem Dq.boxX2 (hh : Dq w0 w ns zs qs bs) (t : Int) (b : Bool) (A : Option Addr) (n c : Nat) (e p : Int) (t' : Int) (b' : Bool) (A' : Option Addr) (n' c' : Nat) (e' p' : Int) : Dq w0 ((w.alloc (.cells #[.int .i64 t, .bool b, .slice A n c, .int .i64 e, .int .i64 p] 150)).alloc (.cells #[.int .i64 t', .bool b', .slice A' n' c', .int .i64 e', .int .i64 p'] 150)) ns zs qs ((w.heap.size + 1, 150, #[.int .i64 t', .bool b', .slice A' n' c', .int .i64 e', .int .i64 p']) :: (w.heap.size, 150, #[.int .i64 t, .bool b, .slice A n c, .int .i64 e, .int .i64 p]) :: bs):=by
 have:=(hh.boxX t b A n c e p).boxX t' b' A' n' c' e' p'
 rwa [show (w.alloc (.cells #[.int .i64 t, .bool b, .slice A n c, .int .i64 e, .int .i64 p] 150)).heap.size = w.heap.size + 1 from by simp] at this
theorem Dq.boxMX2 (hh : Dq w0 w ns zs qs bs) {k : Nat} (hk : w.heap.size = k) (t : Int) (b : Bool) (A : Option Addr) (n c : Nat) (e p : Int) (t' : Int) (b' : Bool) (A' : Option Addr) (n' c' : Nat) (e' p' : Int) : Dq w0 ((w.alloc (.cells #[.int .i64 t, .bool b, .slice A n c, .int .i64 e, .int .i64 p] 150)).alloc (.cells #[.int .i64 t', .bool b', .slice A' n' c', .int .i64 e', .int .i64 p'] 150)) ns zs qs ((k + 1, 150, #[.int .i64 t', .bool b', .slice A' n' c', .int .i64 e', .int .i64 p']) :: (k, 150, #[.int .i64 t, .bool b, .slice A n c, .int .i64 e, .int .i64 p]) :: bs):=by
 subst hk; exact hh.boxX2 t b A n c e p t' b' A' n' c' e' p'
theorem Dq.putX (g : Nat) {y0 y1 y2 y3 y4 : Value} (h : Dq w0 w ns zs qs ((g, 150, #[y0, y1, y2, y3, y4]) :: bs)) (t : Int) (b : Bool) (A : Option Addr) (n c : Nat) (e p : Int) : Dq w0 (put5 w g (.int .i64 t) (.bool b) (.slice A n c) (.int .i64 e) (.int .i64 p)) ns zs qs ((g, 150, #[.int .i64 t, .bool b, .slice A n c, .int .i64 e, .int .i64 p]) :: bs):=by
 have hn:=h.nodup
 rw [List.map_cons, List.nodup_cons] at hn
 refine ⟨h.lq.putDi (h.ge _ (List.mem_cons_self ..)) (fun p hp e => hn.1 (List.mem_map.2 ⟨p, hp, e⟩)) t b A n c e p, ?_, fun p hp => ?_⟩
 ·rw [List.map_cons, List.nodup_cons]; exact hn
 ·rcases List.mem_cons.1 hp with rfl | hp
  ·exact h.ge (g, 150, #[y0, y1, y2, y3, y4]) (List.mem_cons_self ..)
  ·exact h.ge p (List.mem_cons_of_mem _ hp)
theorem put5_size (w : World) (g : Nat) (x0 x1 x2 x3 x4 : Value) : (put5 w g x0 x1 x2 x3 x4).heap.size = w.heap.size:=by
 unfold put5
 simp
end
def Made2X (w0 : World) (t1 m1 e1 p1 t2 m2 e2 p2 : Int) (s1 s2 : Value) (w' : World) : Prop:=∃ g1 g2 A1 c1 A2 c2, s1 = (.pointer (some ⟨g1, 0, none⟩)) ∧ s2 = (.pointer (some ⟨g2, 0, none⟩)) ∧ w0.heap.size ≤ g1 ∧ w0.heap.size ≤ g2 ∧ g1 ≠ g2 ∧ Below w0.heap.size w0 w' ∧ Var w' g1 150 #[.int .i64 t1, .bool (ng m1), .slice A1 (zl m1) c1, .int .i64 e1, .int .i64 p1] ∧ Var w' g2 150 #[.int .i64 t2, .bool (ng m2), .slice A2 (zl m2) c2, .int .i64 e2, .int .i64 p2] ∧ IsN w' (.slice A1 (zl m1) c1) m1.natAbs ∧ IsN w' (.slice A2 (zl m2) c2) m2.natAbs
section
variable {w0 w : World} {ns : List (Value × Nat)} {zs : List (Value × Int)} {qs : List (Value × Int × Nat)} {t1 m1 e1 p1 t2 m2 e2 p2 : Int} {A1 A2 : Option Addr} {c1 c2 : Nat}
theorem made2x_of {w' : World} {g1 g2 : Nat} (D : Dq w0 w' ns zs qs [(g1, 150, #[.int .i64 t1, .bool (ng m1), .slice A1 (zl m1) c1, .int .i64 e1, .int .i64 p1]), (g2, 150, #[.int .i64 t2, .bool (ng m2), .slice A2 (zl m2) c2, .int .i64 e2, .int .i64 p2])]) (h1 : (.slice A1 (zl m1) c1, m1.natAbs) ∈ ns) (h2 : (.slice A2 (zl m2) c2, m2.natAbs) ∈ ns) : Made2X w0 t1 m1 e1 p1 t2 m2 e2 p2 (.pointer (some ⟨g1, 0, none⟩)) (.pointer (some ⟨g2, 0, none⟩)) w':=
 ⟨g1, g2, A1, c1, A2, c2, rfl, rfl, D.ge _ (List.mem_cons_self ..), D.swap.ge _ (List.mem_cons_self ..), D.n01.1, D.lq.below, D.lq.b0, D.lq.tl.b0, D.getN h1, D.getN h2⟩

theorem made2x_a (D : Dq w0 w ns zs qs []) (h1 : (.slice A1 (zl m1) c1, m1.natAbs) ∈ ns) (h2 : (.slice A2 (zl m2) c2, m2.natAbs) ∈ ns) : Made2X w0 t1 m1 e1 p1 t2 m2 e2 p2 (.pointer (some ⟨w.heap.size, 0, none⟩)) (.pointer (some ⟨w.heap.size + 1, 0, none⟩)) ((w.alloc (.cells #[.int .i64 t1, .bool (ng m1), .slice A1 (zl m1) c1, .int .i64 e1, .int .i64 p1] 150)).alloc (.cells #[.int .i64 t2, .bool (ng m2), .slice A2 (zl m2) c2, .int .i64 e2, .int .i64 p2] 150)):=made2x_of (D.boxX2 t1 (ng m1) A1 (zl m1) c1 e1 p1 t2 (ng m2) A2 (zl m2) c2 e2 p2).swap h1 h2
theorem made2x_b (D : Dq w0 w ns zs qs []) (h1 : (.slice A1 (zl m1) c1, m1.natAbs) ∈ ns) (h2 : (.slice A2 (zl m2) c2, m2.natAbs) ∈ ns) : Made2X w0 t1 m1 e1 p1 t2 m2 e2 p2 (.pointer (some ⟨w.heap.size + 1, 0, none⟩)) (.pointer (some ⟨w.heap.size, 0, none⟩)) ((w.alloc (.cells #[.int .i64 t2, .bool (ng m2), .slice A2 (zl m2) c2, .int .i64 e2, .int .i64 p2] 150)).alloc (.cells #[.int .i64 t1, .bool (ng m1), .slice A1 (zl m1) c1, .int .i64 e1, .int .i64 p1] 150)):=made2x_of (D.boxX2 t2 (ng m2) A2 (zl m2) c2 e2 p2 t1 (ng m1) A1 (zl m1) c1 e1 p1) h1 h2
theorem made2x_c {g : Nat} {x0 x1 x2 x3 x4 : Value} (D : Dq w0 w ns zs qs [(g, 150, #[x0, x1, x2, x3, x4])]) (h1 : (.slice A1 (zl m1) c1, m1.natAbs) ∈ ns) (h2 : (.slice A2 (zl m2) c2, m2.natAbs) ∈ ns) : Made2X w0 t1 m1 e1 p1 t2 m2 e2 p2 (.pointer (some ⟨g, 0, none⟩)) (.pointer (some ⟨w.heap.size, 0, none⟩)) ((((((w.setCell ⟨g, 0, none⟩ (.int .i64 t1)).setCell ⟨g, 1, none⟩ (.bool (ng m1))).setCell ⟨g, 2, none⟩ (.slice A1 (zl m1) c1)).setCell ⟨g, 3, none⟩ (.int .i64 e1)).setCell ⟨g, 4, none⟩ (.int .i64 p1)).alloc (.cells #[.int .i64 t2, .bool (ng m2), .slice A2 (zl m2) c2, .int .i64 e2, .int .i64 p2] 150)):=made2x_of ((D.putX g t1 (ng m1) A1 (zl m1) c1 e1 p1).boxMX (put5_size ..) t2 (ng m2) A2 (zl m2) c2 e2 p2).swap h1 h2
theorem made2x_d {g : Nat} {x0 x1 x2 x3 x4 : Value} (D : Dq w0 w ns zs qs [(g, 150, #[x0, x1, x2, x3, x4])]) (h1 : (.slice A1 (zl m1) c1, m1.natAbs) ∈ ns) (h2 : (.slice A2 (zl m2) c2, m2.natAbs) ∈ ns) : Made2X w0 t1 m1 e1 p1 t2 m2 e2 p2 (.pointer (some ⟨w.heap.size, 0, none⟩)) (.pointer (some ⟨g, 0, none⟩)) ((((((w.setCell ⟨g, 0, none⟩ (.int .i64 t2)).setCell ⟨g, 1, none⟩ (.bool (ng m2))).setCell ⟨g, 2, none⟩ (.slice A2 (zl m2) c2)).setCell ⟨g, 3, none⟩ (.int .i64 e2)).setCell ⟨g, 4, none⟩ (.int .i64 p2)).alloc (.cells #[.int .i64 t1, .bool (ng m1), .slice A1 (zl m1) c1, .int .i64 e1, .int .i64 p1] 150)):=made2x_of ((D.putX g t2 (ng m2) A2 (zl m2) c2 e2 p2).boxMX (put5_size ..) t1 (ng m1) A1 (zl m1) c1 e1 p1) h1 h2
theorem made2x_e {g k : Nat} {x0 x1 x2 x3 x4 : Value} {y0 y1 y2 y3 y4 : Value} (D : Dq w0 w ns zs qs [(k, 150, #[y0, y1, y2, y3, y4]), (g, 150, #[x0, x1, x2, x3, x4])]) (h1 : (.slice A1 (zl m1) c1, m1.natAbs) ∈ ns) (h2 : (.slice A2 (zl m2) c2, m2.natAbs) ∈ ns) : Made2X w0 t1 m1 e1 p1 t2 m2 e2 p2 (.pointer (some ⟨g, 0, none⟩)) (.pointer (some ⟨k, 0, none⟩)) ((((((((((w.setCell ⟨g, 0, none⟩ (.int .i64 t1)).setCell ⟨g, 1, none⟩ (.bool (ng m1))).setCell ⟨g, 2, none⟩ (.slice A1 (zl m1) c1)).setCell ⟨g, 3, none⟩ (.int .i64 e1)).setCell ⟨g, 4, none⟩ (.int .i64 p1)).setCell ⟨k, 0, none⟩ (.int .i64 t2)).setCell ⟨k, 1, none⟩ (.bool (ng m2))).setCell ⟨k, 2, none⟩ (.slice A2 (zl m2) c2)).setCell ⟨k, 3, none⟩ (.int .i64 e2)).setCell ⟨k, 4, none⟩ (.int .i64 p2)):=made2x_of ((D.swap.putX g t1 (ng m1) A1 (zl m1) c1 e1 p1).swap.putX k t2 (ng m2) A2 (zl m2) c2 e2 p2).swap h1 h2
theorem made2x_f {g k : Nat} {x0 x1 x2 x3 x4 : Value} {y0 y1 y2 y3 y4 : Value} (D : Dq w0 w ns zs qs [(g, 150, #[x0, x1, x2, x3, x4]), (k, 150, #[y0, y1, y2, y3, y4])]) (h1 : (.slice A1 (zl m1) c1, m1.natAbs) ∈ ns) (h2 : (.slice A2 (zl m2) c2, m2.natAbs) ∈ ns) : Made2X w0 t1 m1 e1 p1 t2 m2 e2 p2 (.pointer (some ⟨g, 0, none⟩)) (.pointer (some ⟨k, 0, none⟩)) ((((((((((w.setCell ⟨g, 0, none⟩ (.int .i64 t1)).setCell ⟨g, 1, none⟩ (.bool (ng m1))).setCell ⟨g, 2, none⟩ (.slice A1 (zl m1) c1)).setCell ⟨g, 3, none⟩ (.int .i64 e1)).setCell ⟨g, 4, none⟩ (.int .i64 p1)).setCell ⟨k, 0, none⟩ (.int .i64 t2)).setCell ⟨k, 1, none⟩ (.bool (ng m2))).setCell ⟨k, 2, none⟩ (.slice A2 (zl m2) c2)).setCell ⟨k, 3, none⟩ (.int .i64 e2)).setCell ⟨k, 4, none⟩ (.int .i64 p2)):=made2x_of ((D.putX g t1 (ng m1) A1 (zl m1) c1 e1 p1).swap.putX k t2 (ng m2) A2 (zl m2) c2 e2 p2).swap h1 h2
end
def RetCi (w : World) (q : Int) (k : Nat) (d1 d2 : Rat) (en : Ending) (w' : World) : Prop:=∃ A B, CiOk q k d1 d2 A B ∧ RetIE w (mkM A (-(k : Int))) (mkE A (-(k : Int))) (mkM B (-(k : Int))) (mkE B (-(k : Int))) 0 en w'
theorem small_pt {m e n f : Int} (h : smallB m e n f = true) : smallB m e m e = true ∧ smallB n f n f = true:=by
 unfold smallB at *
 simp only [Bool.and_eq_true, decide_eq_true_eq] at *
 obtain ⟨_, b, c, d, g⟩:=h
 exact ⟨⟨by rw [dcm_self]; omega, b, b, d, d⟩, ⟨by rw [dcm_self]; omega, c, c, g, g⟩⟩
theorem turn_in {m e : Int} (h : Ab (dq m e) 4294967296) : inB m e m e (-1) 32 1 32 = true:=by
 refine (inB_iff _ _ _ _ _ _ _ _).2 ?_
 rw [show dq (-1) 32 = -4294967296 by decide +kernel, show dq 1 32 = 4294967296 by decide +kernel]
 exact h
theorem turn_out {m e : Int} (h : ¬ Ab (dq m e) 4294967296) : inB m e m e (-1) 32 1 32 = false:=by
 rw [Bool.eq_false_iff]
 intro hi
 have:=(inB_iff _ _ _ _ _ _ _ _).1 hi
 rw [show dq (-1) 32 = -4294967296 by decide +kernel, show dq 1 32 = 4294967296 by decide +kernel] at this
 exact h this
theorem okY_yes {k : Nat} {l : Int} (h : l ≤ (k : Int)) (h2 : k ≤ 4096) : okY (k : Int) l = true:=by
 unfold okY
 rw [decide_eq_true h, decide_eq_true (show (k : Int) ≤ 4096 by omega)]
 rfl

theorem yimg_yes (m e n f q : Int) (k : Nat) (vx : Value) (w : World) (hx : IsI w vx m e n f) (lm : zl m ≤ 20) (ln : zl n ≤ 20) (he : -900 ≤ e ∧ e ≤ 900) (hf : -900 ≤ f ∧ f ≤ 900) (hv : Dv m e) (hv2 : Dv n f) (hsm : smallB m e n f = true) (h1 : Ab (dq m e) 4294967296) (h2 : Ab (dq n f) 4294967296) (hq : 0 ≤ q ∧ q ≤ 1) (hk : k ≤ 176) (hT : Tab w) :
  Calls Tryz.prog 86 #[vx, .int .i64 (k : Int), .int .i64 q] w (RetCi w q k (dq m e) (dq n f)):=by
 obtain ⟨A, c, B, d, rfl, hn1, hn2⟩:=hx.form
 have L0:=((Lq.mk0 w).n hn2).n hn1
 obtain ⟨p, hp⟩:=nm9 (k + 64)
 obtain ⟨P, hP⟩:=nm9 (p + 32)
 obtain ⟨T, hTp, hT1, hT2, hT3, hT4⟩:=pi_in (show P < 400 by omega)
 have R1:=rd_ok hP.symm (show 12 ≤ p by omega) hT1 hT2 hT4 h1
 have R2:=rd_ok hP.symm (show 12 ≤ p by omega) hT1 hT2 hT4 h2
 have OK:=ci_ok (q:=q) hp.symm hk R1 R2
 obtain ⟨sp1, sp2⟩:=small_pt hsm
 have bd:=ey_bd (p:=p) (t1:=(rdK (2 * dq m e) T P) + q) (t2:=(rdK (2 * dq n f) T P) + q) R1.ab.1 R2.ab.1 (by omega) (by omega)
 have kb1:=R1.kb
 have kb2:=R2.kb
 have g0:=fun W => yperm_any (k : Int) 0 W
 rw [okY_yes (show (0 : Int) ≤ (k : Int) by omega) (by omega)] at g0
 have g1:=fun x W h => asmall_any m e n f x W h (by omega) (by omega) (by omega) (by omega) hv hv2
 rw [hsm] at g1
 have g2:=fun x W h (hW : Below w.heap.size w W) => yturn_any m e x W h (by omega) (by omega) hv sp1 (hT.mono hW)
 rw [turn_in h1] at g2
 have g3:=fun x W h (hW : Below w.heap.size w W) => yturn_any n f x W h (by omega) (by omega) hv2 sp2 (hT.mono hW)
 rw [turn_in h2] at g3
 have g4:=fun W (hW : Below w.heap.size w W) => cpi_yes P T W (by omega) (hT.mono hW) hTp
 have g5:=fun x y W h i (hW : Below w.heap.size w W) => ytow_any m e T P p x y W h i lm he hv h1 hP.symm (by omega) (by omega) hT1 hT2 hT4 (hT.mono hW)
 have g6:=fun x y W h i (hW : Below w.heap.size w W) => ytow_any n f T P p x y W h i ln hf hv2 h2 hP.symm (by omega) (by omega) hT1 hT2 hT4 (hT.mono hW)
 have g7:=fun x y W h i (hW : Below w.heap.size w W) => yext_any ((rdK (2 * dq m e) T P) + q) (rdA (dq m e) T P p) ((rdK (2 * dq n f) T P) + q) (rdA (dq n f) T P p) p x y W h i R1.ab.1 R2.ab.1 (by omega) (by omega) (by omega) (by omega) (hT.mono hW)
 have g8:=fun x y W h i (hW : Below w.heap.size w W) => yaround_any (eyL p ((rdK (2 * dq m e) T P) + q) (rdA (dq m e) T P p) ((rdK (2 * dq n f) T P) + q) (rdA (dq n f) T P p)) (eyG p ((rdK (2 * dq m e) T P) + q) (rdA (dq m e) T P p) ((rdK (2 * dq n f) T P) + q) (rdA (dq n f) T P p)) k p x y W h i bd.1 bd.2.1 bd.2.2.1 bd.2.2.2.1 bd.2.2.2.2 hp.symm hk (hT.mono hW)
 have HO:=Hd9 (show ∃ A B, CiOk q k (dq m e) (dq n f) A B ∧ mkM A (-(k : Int)) = mkM (ciA k (eyL p ((rdK (2 * dq m e) T P) + q) (rdA (dq m e) T P p) ((rdK (2 * dq n f) T P) + q) (rdA (dq n f) T P p))) (-(k : Int)) ∧ mkE A (-(k : Int)) = mkE (ciA k (eyL p ((rdK (2 * dq m e) T P) + q) (rdA (dq m e) T P p) ((rdK (2 * dq n f) T P) + q) (rdA (dq n f) T P p))) (-(k : Int)) ∧ mkM B (-(k : Int)) = mkM (ciB k (eyG p ((rdK (2 * dq m e) T P) + q) (rdA (dq m e) T P p) ((rdK (2 * dq n f) T P) + q) (rdA (dq n f) T P p))) (-(k : Int)) ∧ mkE B (-(k : Int)) = mkE (ciB k (eyG p ((rdK (2 * dq m e) T P) + q) (rdA (dq m e) T P p) ((rdK (2 * dq n f) T P) + q) (rdA (dq n f) T P p))) (-(k : Int)) from ⟨_, _, OK, rfl, rfl, rfl, rfl⟩)
 have w1 : IntKind.i64.wrap ((k : Int) + 64) = (p : Int):=by rw [IntKind.wrap_i64]; omega
 have w2 : IntKind.i64.wrap ((p : Int) + 32) = (P : Int):=by rw [IntKind.wrap_i64]; omega
 obtain ⟨s1, hs1⟩:=nm9 ((rdK (2 * dq m e) T P) + q)
 obtain ⟨s2, hs2⟩:=nm9 ((rdK (2 * dq n f) T P) + q)
 have w3 : IntKind.i64.wrap ((rdK (2 * dq m e) T P) + q) = s1:=by rw [IntKind.wrap_i64]; omega
 have w4 : IntKind.i64.wrap ((rdK (2 * dq n f) T P) + q) = s2:=by rw [IntKind.wrap_i64]; omega
 rw [hs1, hs2] at g7 g8 HO
 obtain ⟨k1, hk1⟩:=nm9 ((rdK (2 * dq m e) T P))
 obtain ⟨k2, hk2⟩:=nm9 ((rdK (2 * dq n f) T P))
 rw [hk1] at g5 w3
 rw [hk2] at g6 w4
 obtain ⟨y1, hy1⟩:=nm9 ((rdA (dq m e) T P p))
 obtain ⟨y2, hy2⟩:=nm9 ((rdA (dq n f) T P p))
 rw [hy1] at g5 g7 g8 HO
 rw [hy2] at g6 g7 g8 HO
 obtain ⟨xl, hxl⟩:=nm9 (eyL p s1 y1 s2 y2)
 obtain ⟨xg, hxg⟩:=nm9 (eyG p s1 y1 s2 y2)
 rw [hxl, hxg] at g7 g8 HO
 obtain ⟨Ma, hMa⟩:=nm9 (mkM (ciA k xl) (-(k : Int)))
 obtain ⟨Ea, hEa⟩:=nm9 (mkE (ciA k xl) (-(k : Int)))
 obtain ⟨Mb, hMb⟩:=nm9 (mkM (ciB k xg) (-(k : Int)))
 obtain ⟨Eb, hEb⟩:=nm9 (mkE (ciB k xg) (-(k : Int)))
 rw [hMa, hEa, hMb, hEb] at g8 HO
 obtain ⟨d1, hd1⟩:=nm9 (dq m e)
 obtain ⟨d2, hd2⟩:=nm9 (dq n f)
 rw [hd1, hd2] at HO ⊢
 clear hd1 hd2 hMa hEa hMb hEb hxl hxg hy1 hy2 hk1 hk2 hs1 hs2 OK R1 R2 sp1 sp2 bd kb1 kb2 hTp hT1 hT2 hT3 hT4 hp hP hx lm ln he hf hv hv2 hsm h1 h2 hq hk hT hn1 hn2
 generalize mkM (loC T) (-(P : Int)) = ML at *
 generalize mkE (loC T) (-(P : Int)) = EL at *
 generalize mkM (hiC T) (-(P : Int)) = MU at *
 generalize mkE (hiC T) (-(P : Int)) = EU at *
 generalize mkM y1 (-(p : Int)) = M1 at *
 generalize mkM y2 (-(p : Int)) = M2 at *
 generalize mkM xl (-(p : Int)) = Mx at *
 generalize mkM xg (-(p : Int)) = Mg at *
 generalize mkE y1 (-(p : Int)) = E1 at *
 generalize mkE y2 (-(p : Int)) = E2 at *
 generalize mkE xl (-(p : Int)) = Ex at *
 generalize mkE xg (-(p : Int)) = Eg at *
 have G0:=Hd9 g0
 have G1:=Hd9 g1
 have G2:=Hd9 g2
 have G3:=Hd9 g3
 have G4:=Hd9 g4
 have G5:=Hd9 g5
 have G6:=Hd9 g6
 have G7:=Hd9 g7
 have G8:=Hd9 g8
 clear g0 g1 g2 g3 g4 g5 g6 g7 g8
 go_enter Tryz.func86, Tryz.ntmps86
 have L:=((L0.varI (w.heap.size) (by simp) (ng m) A (zl m) c e (ng n) B (zl n) d f).varI (w.heap.size + 1) (by simp) false none 0 0 0 false none 0 0 0)
 obtain ⟨c10,c11,c12,c13,c14,c15⟩:=L.tl.b0.a6
 (try go_wp2_with fail)
 refine (G0.out _).mono ?_
 rintro e9 w' ⟨rfl, rfl⟩
 (try go_wp2_with fail)
 refine (G1.out _ _ (isI_n (m:=m) (e:=e) (n:=n) (f:=f) (s:=.slice A (zl m) c) (t:=.slice B (zl n) d) (L.getN (by simp)) (L.getN (by simp)))).mono ?_
 rintro e w1 ⟨rfl, be⟩
 clear c10 c11 c12 c13 c14 c15
 replace L:=L.step be
 clear be
 obtain ⟨c10,c11,c12,c13,c14,c15⟩:=L.tl.b0.a6
 (try go_wp2_with fail)
 refine (G2.out _ _ (isD_n (m:=m) (e:=e) (s:=.slice A (zl m) c) (L.getN (by simp))) L.below).mono ?_
 rintro e w2 ⟨rfl, be⟩
 clear c10 c11 c12 c13 c14 c15
 replace L:=L.step be
 clear be
 obtain ⟨c10,c11,c12,c13,c14,c15⟩:=L.tl.b0.a6
 (try go_wp2_with fail)
 refine (G3.out _ _ (isD_n (m:=n) (e:=f) (s:=.slice B (zl n) d) (L.getN (by simp))) L.below).mono ?_
 rintro e w3 ⟨rfl, be⟩
 clear c10 c11 c12 c13 c14 c15
 replace L:=L.step be
 clear be
 (try go_wp2_with fail)
 refine (G4.out _ L.below).mono ?_
 rintro e w21 ⟨v9, rfl, ii, be⟩
 obtain ⟨A5, c5, B5, d5, rfl, ia, ib⟩:=ii.form
 replace L:=((L.step be).n ib).n ia
 clear be ii ia ib
 have hl9:=L.b0.lt
 replace L:=L.varI w21.heap.size rfl (ng ML) A5 (zl ML) c5 EL (ng MU) B5 (zl MU) d5 EU
 (try go_wp2_with fail)
 obtain ⟨gp, hgp⟩:=nm9 (w21.heap.size)
 rw [hgp] at L hl9 ⊢
 clear hgp
 have hl_gp:=hl9
 clear hl9
 obtain ⟨V, hV, L9⟩:=L.name
 rw [hV]
 clear hV L
 have L:=L9
 clear L9
 have Q0:=Hd9 (fun Z (hZ : Below V.heap.size V Z) => (L.b0.mono hZ).c60)
 have Q1:=Hd9 (fun Z (hZ : Below V.heap.size V Z) => (L.b0.mono hZ).c61)
 have Q2:=Hd9 (fun Z (hZ : Below V.heap.size V Z) => (L.b0.mono hZ).c62)
 have Q3:=Hd9 (fun Z (hZ : Below V.heap.size V Z) => (L.b0.mono hZ).c63)
 have Q4:=Hd9 (fun Z (hZ : Below V.heap.size V Z) => (L.b0.mono hZ).c64)
 have Q5:=Hd9 (fun Z (hZ : Below V.heap.size V Z) => (L.b0.mono hZ).c65)
 have Q6:=Hd9 (fun Z (hZ : Below V.heap.size V Z) => (L.tl.tl.b0.mono hZ).c60)
 have Q7:=Hd9 (fun Z (hZ : Below V.heap.size V Z) => (L.tl.tl.b0.mono hZ).c61)
 have Q8:=Hd9 (fun Z (hZ : Below V.heap.size V Z) => (L.tl.tl.b0.mono hZ).c62)
 have Q9:=Hd9 (fun Z (hZ : Below V.heap.size V Z) => (L.tl.tl.b0.mono hZ).c63)
 have Q10:=Hd9 (fun Z (hZ : Below V.heap.size V Z) => (L.tl.tl.b0.mono hZ).c64)
 have Q11:=Hd9 (fun Z (hZ : Below V.heap.size V Z) => (L.tl.tl.b0.mono hZ).c65)
 have hb1:=L.b0.lt
 have hb2:=L.tl.tl.b0.lt
 have hb3:=L.tl.b0.lt
 have D0 : Dq V V [(.slice A5 (zl ML) c5, (ML : Int).natAbs), (.slice B5 (zl MU) d5, (MU : Int).natAbs), (.slice A (zl m) c, (m : Int).natAbs), (.slice B (zl n) d, (n : Int).natAbs)] [] [] []:=⟨(((((Lq.mk0 V).n (L.getN (v:=.slice B (zl n) d) (x:=(n : Int).natAbs) (by simp))).n (L.getN (v:=.slice A (zl m) c) (x:=(m : Int).natAbs) (by simp))).n (L.getN (v:=.slice B5 (zl MU) d5) (x:=(MU : Int).natAbs) (by simp))).n (L.getN (v:=.slice A5 (zl ML) c5) (x:=(ML : Int).natAbs) (by simp))), List.nodup_nil, fun p hp => by cases hp⟩
 have D:=D0.drew
 have hVw:=L.below.size
 have HVW:=Hd9 (fun Z (hZ : Below V.heap.size V Z) => L.below.trans (hZ.mono hVw))
 have LL:=Hd9 L
 clear L
 obtain ⟨K, hK⟩:=nm9 (V.heap.size)
 have hz0 : K ≤ V.heap.size:=by omega
 have hc1 : gp < K:=by omega
 have hc2 : w.heap.size < K:=by omega
 have hmd : V.drew.heap.size = K:=hK
 go_cut [11, 12] from 45 to 54 (fun u5 u6 wx => Made2X V k1 M1 E1 (p : Int) k2 M2 E2 (p : Int) u5 u6 wx)
 case first =>
  go_region_held3 (fun w' => w'.cell? ⟨gp, 0, none⟩ = some (.bool (ng ML)) ∧ w'.cell? ⟨gp, 1, none⟩ = some (.slice A5 (zl ML) c5) ∧ w'.cell? ⟨gp, 2, none⟩ = some (.int .i64 EL) ∧ w'.cell? ⟨gp, 3, none⟩ = some (.bool (ng MU)) ∧ w'.cell? ⟨gp, 4, none⟩ = some (.slice B5 (zl MU) d5) ∧ w'.cell? ⟨gp, 5, none⟩ = some (.int .i64 EU) ∧ w'.cell? ⟨w.heap.size, 0, none⟩ = some (.bool (ng m)) ∧ w'.cell? ⟨w.heap.size, 1, none⟩ = some (.slice A (zl m) c) ∧ w'.cell? ⟨w.heap.size, 2, none⟩ = some (.int .i64 e) ∧ w'.cell? ⟨w.heap.size, 3, none⟩ = some (.bool (ng n)) ∧ w'.cell? ⟨w.heap.size, 4, none⟩ = some (.slice B (zl n) d) ∧ w'.cell? ⟨w.heap.size, 5, none⟩ = some (.int .i64 f)) (((try dsimp only); refine ⟨?_, ?_, ?_, ?_, ?_, ?_, ?_, ?_, ?_, ?_, ?_, ?_⟩ <;> (repeat (first | (with_reducible exact Q0.out _ D.lq.below) | (with_reducible exact Q0.out _ D0.lq.below) | (with_reducible exact Q1.out _ D.lq.below) | (with_reducible exact Q1.out _ D0.lq.below) | (with_reducible exact Q2.out _ D.lq.below) | (with_reducible exact Q2.out _ D0.lq.below) | (with_reducible exact Q3.out _ D.lq.below) | (with_reducible exact Q3.out _ D0.lq.below) | (with_reducible exact Q4.out _ D.lq.below) | (with_reducible exact Q4.out _ D0.lq.below) | (with_reducible exact Q5.out _ D.lq.below) | (with_reducible exact Q5.out _ D0.lq.below) | (with_reducible exact Q6.out _ D.lq.below) | (with_reducible exact Q6.out _ D0.lq.below) | (with_reducible exact Q7.out _ D.lq.below) | (with_reducible exact Q7.out _ D0.lq.below) | (with_reducible exact Q8.out _ D.lq.below) | (with_reducible exact Q8.out _ D0.lq.below) | (with_reducible exact Q9.out _ D.lq.below) | (with_reducible exact Q9.out _ D0.lq.below) | (with_reducible exact Q10.out _ D.lq.below) | (with_reducible exact Q10.out _ D0.lq.below) | (with_reducible exact Q11.out _ D.lq.below) | (with_reducible exact Q11.out _ D0.lq.below) | (with_reducible refine c_alloc _ ?_) | (with_reducible refine c_drew ?_) | (with_reducible refine c_set ?_ (by assumption) ?_) | omega)))) (first | (go_at_call 145; (with_reducible refine (G5.out _ _ _ ?_ ?_ ?_).mono ?_); (· (first | (with_reducible refine isD_n (D.getN ?_); (repeat (first | (with_reducible exact mS) | apply mT))) | (with_reducible refine isD_n ((D.boxX 0 false none 0 0 0 0).getN ?_); (repeat (first | (with_reducible exact mS) | apply mT))) | (with_reducible refine isD_n ((D.boxX2 0 false none 0 0 0 0 0 false none 0 0 0 0).getN ?_); (repeat (first | (with_reducible exact mS) | apply mT))) | (with_reducible refine isD_n ((D0.boxX 0 false none 0 0 0 0).drew.getN ?_); (repeat (first | (with_reducible exact mS) | apply mT))) | (with_reducible refine isD_n ((D0.boxX2 0 false none 0 0 0 0 0 false none 0 0 0 0).drew.getN ?_); (repeat (first | (with_reducible exact mS) | apply mT))))); (· (first | (with_reducible refine isI_n (D.getN ?_) (D.getN ?_) <;> (repeat (first | (with_reducible exact mS) | apply mT))) | (with_reducible refine isI_n ((D.boxX 0 false none 0 0 0 0).getN ?_) ((D.boxX 0 false none 0 0 0 0).getN ?_) <;> (repeat (first | (with_reducible exact mS) | apply mT))) | (with_reducible refine isI_n ((D.boxX2 0 false none 0 0 0 0 0 false none 0 0 0 0).getN ?_) ((D.boxX2 0 false none 0 0 0 0 0 false none 0 0 0 0).getN ?_) <;> (repeat (first | (with_reducible exact mS) | apply mT))) | (with_reducible refine isI_n ((D0.boxX 0 false none 0 0 0 0).drew.getN ?_) ((D0.boxX 0 false none 0 0 0 0).drew.getN ?_) <;> (repeat (first | (with_reducible exact mS) | apply mT))) | (with_reducible refine isI_n ((D0.boxX2 0 false none 0 0 0 0 0 false none 0 0 0 0).drew.getN ?_) ((D0.boxX2 0 false none 0 0 0 0 0 false none 0 0 0 0).drew.getN ?_) <;> (repeat (first | (with_reducible exact mS) | apply mT))))); (· (first | (with_reducible exact HVW.out _ D.lq.below) | (with_reducible exact HVW.out _ (D.boxX 0 false none 0 0 0 0).lq.below) | (with_reducible exact HVW.out _ (D.boxX2 0 false none 0 0 0 0 0 false none 0 0 0 0).lq.below) | (with_reducible exact HVW.out _ (D0.boxX 0 false none 0 0 0 0).drew.lq.below) | (with_reducible exact HVW.out _ (D0.boxX2 0 false none 0 0 0 0 0 false none 0 0 0 0).drew.lq.below))); rintro e9 wh ⟨vh, rfl, ix, be⟩; obtain ⟨A7, c7, rfl, in9⟩:=ix.form; (first | (replace D:=D.step be) | (replace D:=(D.boxMX hmd 0 false none 0 0 0 0).step be) | (replace D:=(D.boxMX2 hmd 0 false none 0 0 0 0 0 false none 0 0 0 0).step be) | (replace D:=(D.boxX 0 false none 0 0 0 0).step be) | (replace D:=(D.boxX2 0 false none 0 0 0 0 0 false none 0 0 0 0).step be)); have hz:=be.size; (try simp at hz); replace D:=D.n in9; clear ix in9; (try (have q000:=D.lq.b0.c50; have z000:=D.lq.b0.fr 0; have q001:=D.lq.b0.c51; have z001:=D.lq.b0.fr 1; have q002:=D.lq.b0.c52; have z002:=D.lq.b0.fr 2; have q003:=D.lq.b0.c53; have z003:=D.lq.b0.fr 3; have q004:=D.lq.b0.c54; have z004:=D.lq.b0.fr 4)); (try (have q010:=(D.alloc (.cells #[.int .i64 0, .bool false, .slice none 0 0, .int .i64 0, .int .i64 0] 150)).lq.b0.c50; have z010:=(D.alloc (.cells #[.int .i64 0, .bool false, .slice none 0 0, .int .i64 0, .int .i64 0] 150)).lq.b0.fr 0; have q011:=(D.alloc (.cells #[.int .i64 0, .bool false, .slice none 0 0, .int .i64 0, .int .i64 0] 150)).lq.b0.c51; have z011:=(D.alloc (.cells #[.int .i64 0, .bool false, .slice none 0 0, .int .i64 0, .int .i64 0] 150)).lq.b0.fr 1; have q012:=(D.alloc (.cells #[.int .i64 0, .bool false, .slice none 0 0, .int .i64 0, .int .i64 0] 150)).lq.b0.c52; have z012:=(D.alloc (.cells #[.int .i64 0, .bool false, .slice none 0 0, .int .i64 0, .int .i64 0] 150)).lq.b0.fr 2; have q013:=(D.alloc (.cells #[.int .i64 0, .bool false, .slice none 0 0, .int .i64 0, .int .i64 0] 150)).lq.b0.c53; have z013:=(D.alloc (.cells #[.int .i64 0, .bool false, .slice none 0 0, .int .i64 0, .int .i64 0] 150)).lq.b0.fr 3; have q014:=(D.alloc (.cells #[.int .i64 0, .bool false, .slice none 0 0, .int .i64 0, .int .i64 0] 150)).lq.b0.c54; have z014:=(D.alloc (.cells #[.int .i64 0, .bool false, .slice none 0 0, .int .i64 0, .int .i64 0] 150)).lq.b0.fr 4)); (try (have q020:=((D.alloc (.cells #[.int .i64 0, .bool false, .slice none 0 0, .int .i64 0, .int .i64 0] 150)).alloc (.cells #[.int .i64 0, .bool false, .slice none 0 0, .int .i64 0, .int .i64 0] 150)).lq.b0.c50; have z020:=((D.alloc (.cells #[.int .i64 0, .bool false, .slice none 0 0, .int .i64 0, .int .i64 0] 150)).alloc (.cells #[.int .i64 0, .bool false, .slice none 0 0, .int .i64 0, .int .i64 0] 150)).lq.b0.fr 0; have q021:=((D.alloc (.cells #[.int .i64 0, .bool false, .slice none 0 0, .int .i64 0, .int .i64 0] 150)).alloc (.cells #[.int .i64 0, .bool false, .slice none 0 0, .int .i64 0, .int .i64 0] 150)).lq.b0.c51; have z021:=((D.alloc (.cells #[.int .i64 0, .bool false, .slice none 0 0, .int .i64 0, .int .i64 0] 150)).alloc (.cells #[.int .i64 0, .bool false, .slice none 0 0, .int .i64 0, .int .i64 0] 150)).lq.b0.fr 1; have q022:=((D.alloc (.cells #[.int .i64 0, .bool false, .slice none 0 0, .int .i64 0, .int .i64 0] 150)).alloc (.cells #[.int .i64 0, .bool false, .slice none 0 0, .int .i64 0, .int .i64 0] 150)).lq.b0.c52; have z022:=((D.alloc (.cells #[.int .i64 0, .bool false, .slice none 0 0, .int .i64 0, .int .i64 0] 150)).alloc (.cells #[.int .i64 0, .bool false, .slice none 0 0, .int .i64 0, .int .i64 0] 150)).lq.b0.fr 2; have q023:=((D.alloc (.cells #[.int .i64 0, .bool false, .slice none 0 0, .int .i64 0, .int .i64 0] 150)).alloc (.cells #[.int .i64 0, .bool false, .slice none 0 0, .int .i64 0, .int .i64 0] 150)).lq.b0.c53; have z023:=((D.alloc (.cells #[.int .i64 0, .bool false, .slice none 0 0, .int .i64 0, .int .i64 0] 150)).alloc (.cells #[.int .i64 0, .bool false, .slice none 0 0, .int .i64 0, .int .i64 0] 150)).lq.b0.fr 3; have q024:=((D.alloc (.cells #[.int .i64 0, .bool false, .slice none 0 0, .int .i64 0, .int .i64 0] 150)).alloc (.cells #[.int .i64 0, .bool false, .slice none 0 0, .int .i64 0, .int .i64 0] 150)).lq.b0.c54; have z024:=((D.alloc (.cells #[.int .i64 0, .bool false, .slice none 0 0, .int .i64 0, .int .i64 0] 150)).alloc (.cells #[.int .i64 0, .bool false, .slice none 0 0, .int .i64 0, .int .i64 0] 150)).lq.b0.fr 4)); (try (have q100:=D.lq.tl.b0.c50; have z100:=D.lq.tl.b0.fr 0; have q101:=D.lq.tl.b0.c51; have z101:=D.lq.tl.b0.fr 1; have q102:=D.lq.tl.b0.c52; have z102:=D.lq.tl.b0.fr 2; have q103:=D.lq.tl.b0.c53; have z103:=D.lq.tl.b0.fr 3; have q104:=D.lq.tl.b0.c54; have z104:=D.lq.tl.b0.fr 4)); (try (have q110:=(D.alloc (.cells #[.int .i64 0, .bool false, .slice none 0 0, .int .i64 0, .int .i64 0] 150)).lq.tl.b0.c50; have z110:=(D.alloc (.cells #[.int .i64 0, .bool false, .slice none 0 0, .int .i64 0, .int .i64 0] 150)).lq.tl.b0.fr 0; have q111:=(D.alloc (.cells #[.int .i64 0, .bool false, .slice none 0 0, .int .i64 0, .int .i64 0] 150)).lq.tl.b0.c51; have z111:=(D.alloc (.cells #[.int .i64 0, .bool false, .slice none 0 0, .int .i64 0, .int .i64 0] 150)).lq.tl.b0.fr 1; have q112:=(D.alloc (.cells #[.int .i64 0, .bool false, .slice none 0 0, .int .i64 0, .int .i64 0] 150)).lq.tl.b0.c52; have z112:=(D.alloc (.cells #[.int .i64 0, .bool false, .slice none 0 0, .int .i64 0, .int .i64 0] 150)).lq.tl.b0.fr 2; have q113:=(D.alloc (.cells #[.int .i64 0, .bool false, .slice none 0 0, .int .i64 0, .int .i64 0] 150)).lq.tl.b0.c53; have z113:=(D.alloc (.cells #[.int .i64 0, .bool false, .slice none 0 0, .int .i64 0, .int .i64 0] 150)).lq.tl.b0.fr 3; have q114:=(D.alloc (.cells #[.int .i64 0, .bool false, .slice none 0 0, .int .i64 0, .int .i64 0] 150)).lq.tl.b0.c54; have z114:=(D.alloc (.cells #[.int .i64 0, .bool false, .slice none 0 0, .int .i64 0, .int .i64 0] 150)).lq.tl.b0.fr 4)); (try (have q120:=((D.alloc (.cells #[.int .i64 0, .bool false, .slice none 0 0, .int .i64 0, .int .i64 0] 150)).alloc (.cells #[.int .i64 0, .bool false, .slice none 0 0, .int .i64 0, .int .i64 0] 150)).lq.tl.b0.c50; have z120:=((D.alloc (.cells #[.int .i64 0, .bool false, .slice none 0 0, .int .i64 0, .int .i64 0] 150)).alloc (.cells #[.int .i64 0, .bool false, .slice none 0 0, .int .i64 0, .int .i64 0] 150)).lq.tl.b0.fr 0; have q121:=((D.alloc (.cells #[.int .i64 0, .bool false, .slice none 0 0, .int .i64 0, .int .i64 0] 150)).alloc (.cells #[.int .i64 0, .bool false, .slice none 0 0, .int .i64 0, .int .i64 0] 150)).lq.tl.b0.c51; have z121:=((D.alloc (.cells #[.int .i64 0, .bool false, .slice none 0 0, .int .i64 0, .int .i64 0] 150)).alloc (.cells #[.int .i64 0, .bool false, .slice none 0 0, .int .i64 0, .int .i64 0] 150)).lq.tl.b0.fr 1; have q122:=((D.alloc (.cells #[.int .i64 0, .bool false, .slice none 0 0, .int .i64 0, .int .i64 0] 150)).alloc (.cells #[.int .i64 0, .bool false, .slice none 0 0, .int .i64 0, .int .i64 0] 150)).lq.tl.b0.c52; have z122:=((D.alloc (.cells #[.int .i64 0, .bool false, .slice none 0 0, .int .i64 0, .int .i64 0] 150)).alloc (.cells #[.int .i64 0, .bool false, .slice none 0 0, .int .i64 0, .int .i64 0] 150)).lq.tl.b0.fr 2; have q123:=((D.alloc (.cells #[.int .i64 0, .bool false, .slice none 0 0, .int .i64 0, .int .i64 0] 150)).alloc (.cells #[.int .i64 0, .bool false, .slice none 0 0, .int .i64 0, .int .i64 0] 150)).lq.tl.b0.c53; have z123:=((D.alloc (.cells #[.int .i64 0, .bool false, .slice none 0 0, .int .i64 0, .int .i64 0] 150)).alloc (.cells #[.int .i64 0, .bool false, .slice none 0 0, .int .i64 0, .int .i64 0] 150)).lq.tl.b0.fr 3; have q124:=((D.alloc (.cells #[.int .i64 0, .bool false, .slice none 0 0, .int .i64 0, .int .i64 0] 150)).alloc (.cells #[.int .i64 0, .bool false, .slice none 0 0, .int .i64 0, .int .i64 0] 150)).lq.tl.b0.c54; have z124:=((D.alloc (.cells #[.int .i64 0, .bool false, .slice none 0 0, .int .i64 0, .int .i64 0] 150)).alloc (.cells #[.int .i64 0, .bool false, .slice none 0 0, .int .i64 0, .int .i64 0] 150)).lq.tl.b0.fr 4)); (try obtain ⟨na, nb, nc, nd, nl⟩:=D.n0); (try obtain ⟨ne, nf, ng', nh, nm⟩:=D.n1); (try obtain ⟨ni, nj⟩:=D.n01)) | (go_at_call 145; (with_reducible refine (G6.out _ _ _ ?_ ?_ ?_).mono ?_); (· (first | (with_reducible refine isD_n (D.getN ?_); (repeat (first | (with_reducible exact mS) | apply mT))) | (with_reducible refine isD_n ((D.boxX 0 false none 0 0 0 0).getN ?_); (repeat (first | (with_reducible exact mS) | apply mT))) | (with_reducible refine isD_n ((D.boxX2 0 false none 0 0 0 0 0 false none 0 0 0 0).getN ?_); (repeat (first | (with_reducible exact mS) | apply mT))) | (with_reducible refine isD_n ((D0.boxX 0 false none 0 0 0 0).drew.getN ?_); (repeat (first | (with_reducible exact mS) | apply mT))) | (with_reducible refine isD_n ((D0.boxX2 0 false none 0 0 0 0 0 false none 0 0 0 0).drew.getN ?_); (repeat (first | (with_reducible exact mS) | apply mT))))); (· (first | (with_reducible refine isI_n (D.getN ?_) (D.getN ?_) <;> (repeat (first | (with_reducible exact mS) | apply mT))) | (with_reducible refine isI_n ((D.boxX 0 false none 0 0 0 0).getN ?_) ((D.boxX 0 false none 0 0 0 0).getN ?_) <;> (repeat (first | (with_reducible exact mS) | apply mT))) | (with_reducible refine isI_n ((D.boxX2 0 false none 0 0 0 0 0 false none 0 0 0 0).getN ?_) ((D.boxX2 0 false none 0 0 0 0 0 false none 0 0 0 0).getN ?_) <;> (repeat (first | (with_reducible exact mS) | apply mT))) | (with_reducible refine isI_n ((D0.boxX 0 false none 0 0 0 0).drew.getN ?_) ((D0.boxX 0 false none 0 0 0 0).drew.getN ?_) <;> (repeat (first | (with_reducible exact mS) | apply mT))) | (with_reducible refine isI_n ((D0.boxX2 0 false none 0 0 0 0 0 false none 0 0 0 0).drew.getN ?_) ((D0.boxX2 0 false none 0 0 0 0 0 false none 0 0 0 0).drew.getN ?_) <;> (repeat (first | (with_reducible exact mS) | apply mT))))); (· (first | (with_reducible exact HVW.out _ D.lq.below) | (with_reducible exact HVW.out _ (D.boxX 0 false none 0 0 0 0).lq.below) | (with_reducible exact HVW.out _ (D.boxX2 0 false none 0 0 0 0 0 false none 0 0 0 0).lq.below) | (with_reducible exact HVW.out _ (D0.boxX 0 false none 0 0 0 0).drew.lq.below) | (with_reducible exact HVW.out _ (D0.boxX2 0 false none 0 0 0 0 0 false none 0 0 0 0).drew.lq.below))); rintro e9 wh ⟨vh, rfl, ix, be⟩; obtain ⟨A8, c8, rfl, in9⟩:=ix.form; (first | (replace D:=D.step be) | (replace D:=(D.boxMX hmd 0 false none 0 0 0 0).step be) | (replace D:=(D.boxMX2 hmd 0 false none 0 0 0 0 0 false none 0 0 0 0).step be) | (replace D:=(D.boxX 0 false none 0 0 0 0).step be) | (replace D:=(D.boxX2 0 false none 0 0 0 0 0 false none 0 0 0 0).step be)); have hz:=be.size; (try simp at hz); replace D:=D.n in9; clear ix in9; (try (have q000:=D.lq.b0.c50; have z000:=D.lq.b0.fr 0; have q001:=D.lq.b0.c51; have z001:=D.lq.b0.fr 1; have q002:=D.lq.b0.c52; have z002:=D.lq.b0.fr 2; have q003:=D.lq.b0.c53; have z003:=D.lq.b0.fr 3; have q004:=D.lq.b0.c54; have z004:=D.lq.b0.fr 4)); (try (have q010:=(D.alloc (.cells #[.int .i64 0, .bool false, .slice none 0 0, .int .i64 0, .int .i64 0] 150)).lq.b0.c50; have z010:=(D.alloc (.cells #[.int .i64 0, .bool false, .slice none 0 0, .int .i64 0, .int .i64 0] 150)).lq.b0.fr 0; have q011:=(D.alloc (.cells #[.int .i64 0, .bool false, .slice none 0 0, .int .i64 0, .int .i64 0] 150)).lq.b0.c51; have z011:=(D.alloc (.cells #[.int .i64 0, .bool false, .slice none 0 0, .int .i64 0, .int .i64 0] 150)).lq.b0.fr 1; have q012:=(D.alloc (.cells #[.int .i64 0, .bool false, .slice none 0 0, .int .i64 0, .int .i64 0] 150)).lq.b0.c52; have z012:=(D.alloc (.cells #[.int .i64 0, .bool false, .slice none 0 0, .int .i64 0, .int .i64 0] 150)).lq.b0.fr 2; have q013:=(D.alloc (.cells #[.int .i64 0, .bool false, .slice none 0 0, .int .i64 0, .int .i64 0] 150)).lq.b0.c53; have z013:=(D.alloc (.cells #[.int .i64 0, .bool false, .slice none 0 0, .int .i64 0, .int .i64 0] 150)).lq.b0.fr 3; have q014:=(D.alloc (.cells #[.int .i64 0, .bool false, .slice none 0 0, .int .i64 0, .int .i64 0] 150)).lq.b0.c54; have z014:=(D.alloc (.cells #[.int .i64 0, .bool false, .slice none 0 0, .int .i64 0, .int .i64 0] 150)).lq.b0.fr 4)); (try (have q020:=((D.alloc (.cells #[.int .i64 0, .bool false, .slice none 0 0, .int .i64 0, .int .i64 0] 150)).alloc (.cells #[.int .i64 0, .bool false, .slice none 0 0, .int .i64 0, .int .i64 0] 150)).lq.b0.c50; have z020:=((D.alloc (.cells #[.int .i64 0, .bool false, .slice none 0 0, .int .i64 0, .int .i64 0] 150)).alloc (.cells #[.int .i64 0, .bool false, .slice none 0 0, .int .i64 0, .int .i64 0] 150)).lq.b0.fr 0; have q021:=((D.alloc (.cells #[.int .i64 0, .bool false, .slice none 0 0, .int .i64 0, .int .i64 0] 150)).alloc (.cells #[.int .i64 0, .bool false, .slice none 0 0, .int .i64 0, .int .i64 0] 150)).lq.b0.c51; have z021:=((D.alloc (.cells #[.int .i64 0, .bool false, .slice none 0 0, .int .i64 0, .int .i64 0] 150)).alloc (.cells #[.int .i64 0, .bool false, .slice none 0 0, .int .i64 0, .int .i64 0] 150)).lq.b0.fr 1; have q022:=((D.alloc (.cells #[.int .i64 0, .bool false, .slice none 0 0, .int .i64 0, .int .i64 0] 150)).alloc (.cells #[.int .i64 0, .bool false, .slice none 0 0, .int .i64 0, .int .i64 0] 150)).lq.b0.c52; have z022:=((D.alloc (.cells #[.int .i64 0, .bool false, .slice none 0 0, .int .i64 0, .int .i64 0] 150)).alloc (.cells #[.int .i64 0, .bool false, .slice none 0 0, .int .i64 0, .int .i64 0] 150)).lq.b0.fr 2; have q023:=((D.alloc (.cells #[.int .i64 0, .bool false, .slice none 0 0, .int .i64 0, .int .i64 0] 150)).alloc (.cells #[.int .i64 0, .bool false, .slice none 0 0, .int .i64 0, .int .i64 0] 150)).lq.b0.c53; have z023:=((D.alloc (.cells #[.int .i64 0, .bool false, .slice none 0 0, .int .i64 0, .int .i64 0] 150)).alloc (.cells #[.int .i64 0, .bool false, .slice none 0 0, .int .i64 0, .int .i64 0] 150)).lq.b0.fr 3; have q024:=((D.alloc (.cells #[.int .i64 0, .bool false, .slice none 0 0, .int .i64 0, .int .i64 0] 150)).alloc (.cells #[.int .i64 0, .bool false, .slice none 0 0, .int .i64 0, .int .i64 0] 150)).lq.b0.c54; have z024:=((D.alloc (.cells #[.int .i64 0, .bool false, .slice none 0 0, .int .i64 0, .int .i64 0] 150)).alloc (.cells #[.int .i64 0, .bool false, .slice none 0 0, .int .i64 0, .int .i64 0] 150)).lq.b0.fr 4)); (try (have q100:=D.lq.tl.b0.c50; have z100:=D.lq.tl.b0.fr 0; have q101:=D.lq.tl.b0.c51; have z101:=D.lq.tl.b0.fr 1; have q102:=D.lq.tl.b0.c52; have z102:=D.lq.tl.b0.fr 2; have q103:=D.lq.tl.b0.c53; have z103:=D.lq.tl.b0.fr 3; have q104:=D.lq.tl.b0.c54; have z104:=D.lq.tl.b0.fr 4)); (try (have q110:=(D.alloc (.cells #[.int .i64 0, .bool false, .slice none 0 0, .int .i64 0, .int .i64 0] 150)).lq.tl.b0.c50; have z110:=(D.alloc (.cells #[.int .i64 0, .bool false, .slice none 0 0, .int .i64 0, .int .i64 0] 150)).lq.tl.b0.fr 0; have q111:=(D.alloc (.cells #[.int .i64 0, .bool false, .slice none 0 0, .int .i64 0, .int .i64 0] 150)).lq.tl.b0.c51; have z111:=(D.alloc (.cells #[.int .i64 0, .bool false, .slice none 0 0, .int .i64 0, .int .i64 0] 150)).lq.tl.b0.fr 1; have q112:=(D.alloc (.cells #[.int .i64 0, .bool false, .slice none 0 0, .int .i64 0, .int .i64 0] 150)).lq.tl.b0.c52; have z112:=(D.alloc (.cells #[.int .i64 0, .bool false, .slice none 0 0, .int .i64 0, .int .i64 0] 150)).lq.tl.b0.fr 2; have q113:=(D.alloc (.cells #[.int .i64 0, .bool false, .slice none 0 0, .int .i64 0, .int .i64 0] 150)).lq.tl.b0.c53; have z113:=(D.alloc (.cells #[.int .i64 0, .bool false, .slice none 0 0, .int .i64 0, .int .i64 0] 150)).lq.tl.b0.fr 3; have q114:=(D.alloc (.cells #[.int .i64 0, .bool false, .slice none 0 0, .int .i64 0, .int .i64 0] 150)).lq.tl.b0.c54; have z114:=(D.alloc (.cells #[.int .i64 0, .bool false, .slice none 0 0, .int .i64 0, .int .i64 0] 150)).lq.tl.b0.fr 4)); (try (have q120:=((D.alloc (.cells #[.int .i64 0, .bool false, .slice none 0 0, .int .i64 0, .int .i64 0] 150)).alloc (.cells #[.int .i64 0, .bool false, .slice none 0 0, .int .i64 0, .int .i64 0] 150)).lq.tl.b0.c50; have z120:=((D.alloc (.cells #[.int .i64 0, .bool false, .slice none 0 0, .int .i64 0, .int .i64 0] 150)).alloc (.cells #[.int .i64 0, .bool false, .slice none 0 0, .int .i64 0, .int .i64 0] 150)).lq.tl.b0.fr 0; have q121:=((D.alloc (.cells #[.int .i64 0, .bool false, .slice none 0 0, .int .i64 0, .int .i64 0] 150)).alloc (.cells #[.int .i64 0, .bool false, .slice none 0 0, .int .i64 0, .int .i64 0] 150)).lq.tl.b0.c51; have z121:=((D.alloc (.cells #[.int .i64 0, .bool false, .slice none 0 0, .int .i64 0, .int .i64 0] 150)).alloc (.cells #[.int .i64 0, .bool false, .slice none 0 0, .int .i64 0, .int .i64 0] 150)).lq.tl.b0.fr 1; have q122:=((D.alloc (.cells #[.int .i64 0, .bool false, .slice none 0 0, .int .i64 0, .int .i64 0] 150)).alloc (.cells #[.int .i64 0, .bool false, .slice none 0 0, .int .i64 0, .int .i64 0] 150)).lq.tl.b0.c52; have z122:=((D.alloc (.cells #[.int .i64 0, .bool false, .slice none 0 0, .int .i64 0, .int .i64 0] 150)).alloc (.cells #[.int .i64 0, .bool false, .slice none 0 0, .int .i64 0, .int .i64 0] 150)).lq.tl.b0.fr 2; have q123:=((D.alloc (.cells #[.int .i64 0, .bool false, .slice none 0 0, .int .i64 0, .int .i64 0] 150)).alloc (.cells #[.int .i64 0, .bool false, .slice none 0 0, .int .i64 0, .int .i64 0] 150)).lq.tl.b0.c53; have z123:=((D.alloc (.cells #[.int .i64 0, .bool false, .slice none 0 0, .int .i64 0, .int .i64 0] 150)).alloc (.cells #[.int .i64 0, .bool false, .slice none 0 0, .int .i64 0, .int .i64 0] 150)).lq.tl.b0.fr 3; have q124:=((D.alloc (.cells #[.int .i64 0, .bool false, .slice none 0 0, .int .i64 0, .int .i64 0] 150)).alloc (.cells #[.int .i64 0, .bool false, .slice none 0 0, .int .i64 0, .int .i64 0] 150)).lq.tl.b0.c54; have z124:=((D.alloc (.cells #[.int .i64 0, .bool false, .slice none 0 0, .int .i64 0, .int .i64 0] 150)).alloc (.cells #[.int .i64 0, .bool false, .slice none 0 0, .int .i64 0, .int .i64 0] 150)).lq.tl.b0.fr 4)); (try obtain ⟨na, nb, nc, nd, nl⟩:=D.n0); (try obtain ⟨ne, nf, ng', nh, nm⟩:=D.n1); (try obtain ⟨ni, nj⟩:=D.n01)))
  all_goals
   go_wp2_with fail
   go_meet
   first
   | ((with_reducible refine made2x_a D ?_ ?_) <;> (repeat (first | (with_reducible exact mS) | apply mT)))
   | ((with_reducible refine made2x_b D ?_ ?_) <;> (repeat (first | (with_reducible exact mS) | apply mT)))
   | ((with_reducible refine made2x_c D ?_ ?_) <;> (repeat (first | (with_reducible exact mS) | apply mT)))
   | ((with_reducible refine made2x_d D ?_ ?_) <;> (repeat (first | (with_reducible exact mS) | apply mT)))
   | ((with_reducible refine made2x_e D ?_ ?_) <;> (repeat (first | (with_reducible exact mS) | apply mT)))
   | ((with_reducible refine made2x_f D ?_ ?_) <;> (repeat (first | (with_reducible exact mS) | apply mT)))
 case rest =>
  obtain ⟨gu, gt, A7, c7, A8, c8, rfl, rfl, hg1, hg2, hg12, bw, hv1, hv2, iq1, iq2⟩:=hcut
  have hgr1 : w.heap.size + 1 < gu:=by omega
  have hgr2 : w.heap.size + 1 < gt:=by omega
  have L:=((((LL.out.step bw).n iq2).n iq1).b hv2).b hv1
  clear D D0 hmd hz0 hK LL hv1 hv2 iq1 iq2 bw hb1 hb2 hb3 hc1 hc2 hg1 hg2 HVW Q0 Q1 Q2 Q3 Q4 Q5 Q6 Q7 Q8 Q9 Q10 Q11
  generalize wc = wd30 at *
  have L9:=L.subx (ns':=[(.slice A7 (zl M1) c7, M1.natAbs), (.slice A8 (zl M2) c8, M2.natAbs)]) (bs':=[(gu, 150, #[.int .i64 k1, .bool (ng M1), .slice A7 (zl M1) c7, .int .i64 E1, .int .i64 (p : Int)]), (gt, 150, #[.int .i64 k2, .bool (ng M2), .slice A8 (zl M2) c8, .int .i64 E2, .int .i64 (p : Int)]), (w.heap.size + 1, 28, #[.bool false, .slice none 0 0, .int .i64 0, .bool false, .slice none 0 0, .int .i64 0])]) (by simp) (by simp)
  clear L
  have L:=L9
  clear L9
  have P : Lq w (wd30.setCell ⟨gu, 0, none⟩ (.int .i64 s1)) _ _ _ ((gu, 150, #[.int .i64 s1, .bool (ng M1), .slice A7 (zl M1) c7, .int .i64 E1, .int .i64 (p : Int)]) :: _):=L.set (by omega) (by simp [hg12, Ne.symm hg12]; omega) 0 (.int .i64 s1) (by intro x e; cases e)
  have P2 : Lq w ((wd30.setCell ⟨gu, 0, none⟩ (.int .i64 s1)).setCell ⟨gt, 0, none⟩ (.int .i64 s2)) _ _ _ ((gt, 150, #[.int .i64 s2, .bool (ng M2), .slice A8 (zl M2) c8, .int .i64 E2, .int .i64 (p : Int)]) :: _):=P.swap.set (by omega) (by simp [hg12, Ne.symm hg12]; omega) 0 (.int .i64 s2) (by intro x e; cases e)
  have c00:=L.b0.c50
  have f00:=L.b0.fr 0
  have c01:=L.b0.c51
  have f01:=L.b0.fr 1
  have c02:=L.b0.c52
  have f02:=L.b0.fr 2
  have c03:=L.b0.c53
  have f03:=L.b0.fr 3
  have c04:=L.b0.c54
  have f04:=L.b0.fr 4
  have c10:=L.tl.b0.c50
  have f10:=L.tl.b0.fr 0
  have c11:=L.tl.b0.c51
  have f11:=L.tl.b0.fr 1
  have c12:=L.tl.b0.c52
  have f12:=L.tl.b0.fr 2
  have c13:=L.tl.b0.c53
  have f13:=L.tl.b0.fr 3
  have c14:=L.tl.b0.c54
  have f14:=L.tl.b0.fr 4
  have pa0:=P.tl.b0.c50
  have pf0:=P.tl.b0.fr 0
  have pa1:=P.tl.b0.c51
  have pf1:=P.tl.b0.fr 1
  have pa2:=P.tl.b0.c52
  have pf2:=P.tl.b0.fr 2
  have pa3:=P.tl.b0.c53
  have pf3:=P.tl.b0.fr 3
  have pa4:=P.tl.b0.c54
  have pf4:=P.tl.b0.fr 4
  have pb0:=P2.b0.c50
  have pc0:=P2.tl.b0.c50
  have pb1:=P2.b0.c51
  have pc1:=P2.tl.b0.c51
  have pb2:=P2.b0.c52
  have pc2:=P2.tl.b0.c52
  have pb3:=P2.b0.c53
  have pc3:=P2.tl.b0.c53
  have pb4:=P2.b0.c54
  have pc4:=P2.tl.b0.c54
  (try go_wp2_with fail)
  clear pa0 pf0 pb0 pc0 pa1 pf1 pb1 pc1 pa2 pf2 pb2 pc2 pa3 pf3 pb3 pc3 pa4 pf4 pb4 pc4
  replace L:=P2.swap
  clear P P2
  clear c00 f00 c01 f01 c02 f02 c03 f03 c04 f04 c10 f10 c11 f11 c12 f12 c13 f13 c14 f14
  refine (G7.out _ _ _ (isX_n (t:=s1) (m:=M1) (e:=E1) (p:=(p : Int)) (s:=.slice A7 (zl M1) c7) (L.getN (by simp))) (isX_n (t:=s2) (m:=M2) (e:=E2) (p:=(p : Int)) (s:=.slice A8 (zl M2) c8) (L.getN (by simp))) L.below).mono ?_
  rintro e w32 ⟨v9, u9, rfl, iz, iy, be⟩
  obtain ⟨A9, c9, rfl, _, in9⟩:=iz.form
  obtain ⟨Aa, ca, rfl, _, in8⟩:=iy.form
  replace L:=((L.step be).n in8).n in9
  clear be iz iy in9 in8
  have hl9:=L.tl.tl.b0.lt
  have L9:=L.subx (ns':=[(.slice A9 (zl Mx) c9, Mx.natAbs), (.slice Aa (zl Mg) ca, Mg.natAbs)]) (bs':=[(w.heap.size + 1, 28, #[.bool false, .slice none 0 0, .int .i64 0, .bool false, .slice none 0 0, .int .i64 0])]) (by simp) (by simp)
  clear L
  have L:=L9
  clear L9
  have LA:=L.varD w32.heap.size rfl (ng Mx) A9 (zl Mx) c9 Ex
  have LB:=LA.varD (w32.heap.size + 1) (by simp) (ng Mg) Aa (zl Mg) ca Eg
  have x0:=LB.tl.b0.c30
  have y0:=LB.b0.c30
  have x1:=LB.tl.b0.c31
  have y1:=LB.b0.c31
  have x2:=LB.tl.b0.c32
  have y2:=LB.b0.c32
  (try go_wp2_with fail)
  clear x0 y0 x1 y1 x2 y2
  clear L
  have L:=LB
  clear LA LB
  have nr1 : w32.heap.size ≠ w.heap.size + 1:=by omega
  have nr2 : w32.heap.size + 1 ≠ w.heap.size + 1:=by omega
  refine (G8.out _ _ _ (isD_n (m:=Mx) (e:=Ex) (s:=.slice A9 (zl Mx) c9) (L.getN (by simp))) (isD_n (m:=Mg) (e:=Eg) (s:=.slice Aa (zl Mg) ca) (L.getN (by simp))) L.below).mono ?_
  rintro e w33 ⟨v9, rfl, ii, be⟩
  obtain ⟨Ab9, cb, Bb, db, rfl, ia, ib⟩:=ii.form
  replace L:=((L.step be).n ib).n ia
  clear be ii ia ib
  obtain ⟨FA, FB, hOK, hf1, hf2, hf3, hf4⟩:=HO.out
  have L9:=L.subx (ns':=[(.slice Ab9 (zl Ma) cb, Ma.natAbs), (.slice Bb (zl Mb) db, Mb.natAbs)]) (bs':=[(w.heap.size + 1, 28, #[.bool false, .slice none 0 0, .int .i64 0, .bool false, .slice none 0 0, .int .i64 0])]) (by simp) (by simp)
  clear L
  have L:=L9
  clear L9
  obtain ⟨c00,c01,c02,c03,c04,c05⟩:=L.b0.a6
  obtain ⟨f00,f01,f02,f03,f04,f05⟩:=L.b0.f6
  (try go_wp2_with fail)
  clear c00 f00 c01 f01 c02 f02 c03 f03 c04 f04 c05 f05
  have LP:=L.putI (by omega) (by first | (simp; done) | (simp; omega)) (ng Ma) Ab9 (zl Ma) cb Ea (ng Mb) Bb (zl Mb) db Eb
  obtain ⟨k0,k1,k2,k3,k4,k5⟩:=LP.b0.a6
  unfold put6 at k0 k1 k2 k3 k4 k5
  exact bodyPost_ret (v:=.tuple #[.agg #[.bool (ng Ma), .slice Ab9 (zl Ma) cb, .int .i64 Ea, .bool (ng Mb), .slice Bb (zl Mb) db, .int .i64 Eb], .int .i64 0]) (by simp [results, Tryz.results86, go_sem, k0, k1, k2, k3, k4, k5]) rfl ⟨FA, FB, hOK, _, rfl, by rw [hf1, hf2, hf3, hf4]; exact isI_n (LP.getN (by simp)) (LP.getN (by simp)), LP.below⟩

theorem yimg_arg (m e n f k q : Int) (vx : Value) (w : World) (hx : IsI w vx m e n f) (hk : okY k 0 = false) :
  Calls Tryz.prog 86 #[vx, .int .i64 k, .int .i64 q] w (RetIE w 0 0 0 0 1):=by
 obtain ⟨A, c, B, d, rfl, hn1, hn2⟩:=hx.form
 have L0:=((Lq.mk0 w).n hn2).n hn1
 have g0:=fun W => yperm_any k 0 W
 rw [hk] at g0
 have G0:=Hd9 g0
 clear g0 hx
 go_enter Tryz.func86, Tryz.ntmps86
 have L:=((L0.varI (w.heap.size) (by simp) (ng m) A (zl m) c e (ng n) B (zl n) d f).varI (w.heap.size + 1) (by simp) false none 0 0 0 false none 0 0 0)
 obtain ⟨c00,c01,c02,c03,c04,c05⟩:=L.b0.a6
 obtain ⟨f00,f01,f02,f03,f04,f05⟩:=L.b0.f6
 (try go_wp2_with fail)
 refine (G0.out _).mono ?_
 rintro e9 w' ⟨rfl, rfl⟩
 (try go_wp2_with fail)
 exact bodyPost_ret (v:=.tuple #[.agg #[.bool false, .slice none 0 0, .int .i64 0, .bool false, .slice none 0 0, .int .i64 0], .int .i64 1]) (by simp [results, Tryz.results86, go_sem, c00, c01, c02, c03, c04, c05]) rfl ⟨_, rfl, isI_zero _, L.below⟩
theorem yimg_lo (m e n f q : Int) (k : Nat) (vx : Value) (w : World) (hx : IsI w vx m e n f) (lm : zl m ≤ 500) (ln : zl n ≤ 500) (he : -10000 ≤ e ∧ e ≤ 10000) (hf : -10000 ≤ f ∧ f ≤ 10000) (hv : Dv m e) (hv2 : Dv n f) (hsm : smallB m e n f = true) (h1 : ¬ Ab (dq m e) 4294967296) (hk : k ≤ 4096) (hT : Tab w) :
  Calls Tryz.prog 86 #[vx, .int .i64 (k : Int), .int .i64 q] w (RetIE w 0 0 0 0 3):=by
 obtain ⟨A, c, B, d, rfl, hn1, hn2⟩:=hx.form
 have L0:=((Lq.mk0 w).n hn2).n hn1
 obtain ⟨sp1, sp2⟩:=small_pt hsm
 have g0:=fun W => yperm_any (k : Int) 0 W
 rw [okY_yes (show (0 : Int) ≤ (k : Int) by omega) (by omega)] at g0
 have g1:=fun x W h => asmall_any m e n f x W h (by omega) (by omega) (by omega) (by omega) hv hv2
 rw [hsm] at g1
 have g2:=fun x W h (hW : Below w.heap.size w W) => yturn_any m e x W h (by omega) (by omega) hv sp1 (hT.mono hW)
 rw [turn_out h1] at g2
 have g3:=fun x W h (hW : Below w.heap.size w W) => yturn_any n f x W h (by omega) (by omega) hv2 sp2 (hT.mono hW)
 clear sp1 sp2 hx lm ln he hf hv hv2 hsm h1 hk hT hn1 hn2
 have G0:=Hd9 g0
 have G1:=Hd9 g1
 have G2:=Hd9 g2
 have G3:=Hd9 g3
 clear g0 g1 g2 g3
 go_enter Tryz.func86, Tryz.ntmps86
 have L:=((L0.varI (w.heap.size) (by simp) (ng m) A (zl m) c e (ng n) B (zl n) d f).varI (w.heap.size + 1) (by simp) false none 0 0 0 false none 0 0 0)
 obtain ⟨c10,c11,c12,c13,c14,c15⟩:=L.tl.b0.a6
 (try go_wp2_with fail)
 refine (G0.out _).mono ?_
 rintro e9 w' ⟨rfl, rfl⟩
 (try go_wp2_with fail)
 refine (G1.out _ _ (isI_n (m:=m) (e:=e) (n:=n) (f:=f) (s:=.slice A (zl m) c) (t:=.slice B (zl n) d) (L.getN (by simp)) (L.getN (by simp)))).mono ?_
 rintro e w1 ⟨rfl, be⟩
 clear c10 c11 c12 c13 c14 c15
 replace L:=L.step be
 clear be
 obtain ⟨c10,c11,c12,c13,c14,c15⟩:=L.tl.b0.a6
 (try go_wp2_with fail)
 refine (G2.out _ _ (isD_n (m:=m) (e:=e) (s:=.slice A (zl m) c) (L.getN (by simp))) L.below).mono ?_
 rintro e w2 ⟨rfl, be⟩
 clear c10 c11 c12 c13 c14 c15
 replace L:=L.step be
 clear be
 have L9:=L.subx (ns':=[]) (bs':=[(w.heap.size + 1, 28, #[.bool false, .slice none 0 0, .int .i64 0, .bool false, .slice none 0 0, .int .i64 0])]) (by simp) (by simp)
 clear L
 have L:=L9
 clear L9
 obtain ⟨c00,c01,c02,c03,c04,c05⟩:=L.b0.a6
 obtain ⟨f00,f01,f02,f03,f04,f05⟩:=L.b0.f6
 (try go_wp2_with fail)
 clear c00 f00 c01 f01 c02 f02 c03 f03 c04 f04 c05 f05
 have LP:=L.putI (by omega) (by first | (simp; done) | (simp; omega)) false none 0 0 0 false none 0 0 0
 obtain ⟨k0,k1,k2,k3,k4,k5⟩:=LP.b0.a6
 unfold put6 at k0 k1 k2 k3 k4 k5
 exact bodyPost_ret (v:=.tuple #[.agg #[.bool false, .slice none 0 0, .int .i64 0, .bool false, .slice none 0 0, .int .i64 0], .int .i64 3]) (by simp [results, Tryz.results86, go_sem, k0, k1, k2, k3, k4, k5]) rfl ⟨_, rfl, isI_zero _, LP.below⟩
theorem yimg_hi (m e n f q : Int) (k : Nat) (vx : Value) (w : World) (hx : IsI w vx m e n f) (lm : zl m ≤ 500) (ln : zl n ≤ 500) (he : -10000 ≤ e ∧ e ≤ 10000) (hf : -10000 ≤ f ∧ f ≤ 10000) (hv : Dv m e) (hv2 : Dv n f) (hsm : smallB m e n f = true) (h1 : Ab (dq m e) 4294967296) (h2 : ¬ Ab (dq n f) 4294967296) (hk : k ≤ 4096) (hT : Tab w) :
  Calls Tryz.prog 86 #[vx, .int .i64 (k : Int), .int .i64 q] w (RetIE w 0 0 0 0 3):=by
 obtain ⟨A, c, B, d, rfl, hn1, hn2⟩:=hx.form
 have L0:=((Lq.mk0 w).n hn2).n hn1
 obtain ⟨sp1, sp2⟩:=small_pt hsm
 have g0:=fun W => yperm_any (k : Int) 0 W
 rw [okY_yes (show (0 : Int) ≤ (k : Int) by omega) (by omega)] at g0
 have g1:=fun x W h => asmall_any m e n f x W h (by omega) (by omega) (by omega) (by omega) hv hv2
 rw [hsm] at g1
 have g2:=fun x W h (hW : Below w.heap.size w W) => yturn_any m e x W h (by omega) (by omega) hv sp1 (hT.mono hW)
 rw [turn_in h1] at g2
 have g3:=fun x W h (hW : Below w.heap.size w W) => yturn_any n f x W h (by omega) (by omega) hv2 sp2 (hT.mono hW)
 rw [turn_out h2] at g3
 clear sp1 sp2 hx lm ln he hf hv hv2 hsm h1 h2 hk hT hn1 hn2
 have G0:=Hd9 g0
 have G1:=Hd9 g1
 have G2:=Hd9 g2
 have G3:=Hd9 g3
 clear g0 g1 g2 g3
 go_enter Tryz.func86, Tryz.ntmps86
 have L:=((L0.varI (w.heap.size) (by simp) (ng m) A (zl m) c e (ng n) B (zl n) d f).varI (w.heap.size + 1) (by simp) false none 0 0 0 false none 0 0 0)
 obtain ⟨c10,c11,c12,c13,c14,c15⟩:=L.tl.b0.a6
 (try go_wp2_with fail)
 refine (G0.out _).mono ?_
 rintro e9 w' ⟨rfl, rfl⟩
 (try go_wp2_with fail)
 refine (G1.out _ _ (isI_n (m:=m) (e:=e) (n:=n) (f:=f) (s:=.slice A (zl m) c) (t:=.slice B (zl n) d) (L.getN (by simp)) (L.getN (by simp)))).mono ?_
 rintro e w1 ⟨rfl, be⟩
 clear c10 c11 c12 c13 c14 c15
 replace L:=L.step be
 clear be
 obtain ⟨c10,c11,c12,c13,c14,c15⟩:=L.tl.b0.a6
 (try go_wp2_with fail)
 refine (G2.out _ _ (isD_n (m:=m) (e:=e) (s:=.slice A (zl m) c) (L.getN (by simp))) L.below).mono ?_
 rintro e w2 ⟨rfl, be⟩
 clear c10 c11 c12 c13 c14 c15
 replace L:=L.step be
 clear be
 obtain ⟨c10,c11,c12,c13,c14,c15⟩:=L.tl.b0.a6
 (try go_wp2_with fail)
 refine (G3.out _ _ (isD_n (m:=n) (e:=f) (s:=.slice B (zl n) d) (L.getN (by simp))) L.below).mono ?_
 rintro e w3 ⟨rfl, be⟩
 clear c10 c11 c12 c13 c14 c15
 replace L:=L.step be
 clear be
 have L9:=L.subx (ns':=[]) (bs':=[(w.heap.size + 1, 28, #[.bool false, .slice none 0 0, .int .i64 0, .bool false, .slice none 0 0, .int .i64 0])]) (by simp) (by simp)
 clear L
 have L:=L9
 clear L9
 obtain ⟨c00,c01,c02,c03,c04,c05⟩:=L.b0.a6
 obtain ⟨f00,f01,f02,f03,f04,f05⟩:=L.b0.f6
 (try go_wp2_with fail)
 clear c00 f00 c01 f01 c02 f02 c03 f03 c04 f04 c05 f05
 have LP:=L.putI (by omega) (by first | (simp; done) | (simp; omega)) false none 0 0 0 false none 0 0 0
 obtain ⟨k0,k1,k2,k3,k4,k5⟩:=LP.b0.a6
 unfold put6 at k0 k1 k2 k3 k4 k5
 exact bodyPost_ret (v:=.tuple #[.agg #[.bool false, .slice none 0 0, .int .i64 0, .bool false, .slice none 0 0, .int .i64 0], .int .i64 3]) (by simp [results, Tryz.results86, go_sem, k0, k1, k2, k3, k4, k5]) rfl ⟨_, rfl, isI_zero _, LP.below⟩
theorem ysin_yes (m e n f : Int) (k : Nat) (vx : Value) (w : World) (hx : IsI w vx m e n f) (lm : zl m ≤ 20) (ln : zl n ≤ 20) (he : -900 ≤ e ∧ e ≤ 900) (hf : -900 ≤ f ∧ f ≤ 900) (hv : Dv m e) (hv2 : Dv n f) (hsm : smallB m e n f = true) (h1 : Ab (dq m e) 4294967296) (h2 : Ab (dq n f) 4294967296) (hk : k ≤ 176) (hT : Tab w) :
  Calls Tryz.prog 33 #[vx, .int .i64 (k : Int)] w (RetCi w 0 k (dq m e) (dq n f)):=by
 obtain ⟨A, c, B, d, rfl, hn1, hn2⟩:=hx.form
 have L0:=((Lq.mk0 w).n hn2).n hn1
 have g0:=fun x W h (hW : Below w.heap.size w W) => yimg_yes m e n f 0 k x W h lm ln he hf hv hv2 hsm h1 h2 (by decide) hk (hT.mono hW)
 obtain ⟨d1, hd1⟩:=nm9 (dq m e)
 obtain ⟨d2, hd2⟩:=nm9 (dq n f)
 rw [hd1, hd2] at g0 ⊢
 have G0:=Hd9 g0
 clear g0 hx lm ln he hf hv hv2 hsm h1 h2 hk hT hd1 hd2 hn1 hn2
 go_enter Tryz.func33, Tryz.ntmps33
 have L:=((L0.varI (w.heap.size) (by simp) (ng m) A (zl m) c e (ng n) B (zl n) d f).varI (w.heap.size + 1) (by simp) false none 0 0 0 false none 0 0 0)
 obtain ⟨c10,c11,c12,c13,c14,c15⟩:=L.tl.b0.a6
 (try go_wp2_with fail)
 refine (G0.out _ _ (isI_n (m:=m) (e:=e) (n:=n) (f:=f) (s:=.slice A (zl m) c) (t:=.slice B (zl n) d) (L.getN (by simp)) (L.getN (by simp))) L.below).mono ?_
 rintro e w1 ⟨FA, FB, hOK, v9, rfl, ii, be⟩
 clear c10 c11 c12 c13 c14 c15
 obtain ⟨A5, c5, B5, d5, rfl, ia, ib⟩:=ii.form
 replace L:=((L.step be).n ib).n ia
 clear be ii ia ib
 obtain ⟨Ma, hMa⟩:=nm9 (mkM FA (-(k : Int)))
 obtain ⟨Ea, hEa⟩:=nm9 (mkE FA (-(k : Int)))
 obtain ⟨Mb, hMb⟩:=nm9 (mkM FB (-(k : Int)))
 obtain ⟨Eb, hEb⟩:=nm9 (mkE FB (-(k : Int)))
 rw [hMa, hMb] at L ⊢
 rw [hEa, hEb]
 have L9:=L.subx (ns':=[(.slice A5 (zl Ma) c5, Ma.natAbs), (.slice B5 (zl Mb) d5, Mb.natAbs)]) (bs':=[(w.heap.size + 1, 28, #[.bool false, .slice none 0 0, .int .i64 0, .bool false, .slice none 0 0, .int .i64 0])]) (by simp) (by simp)
 clear L
 have L:=L9
 clear L9
 obtain ⟨c00,c01,c02,c03,c04,c05⟩:=L.b0.a6
 obtain ⟨f00,f01,f02,f03,f04,f05⟩:=L.b0.f6
 (try go_wp2_with fail)
 clear c00 f00 c01 f01 c02 f02 c03 f03 c04 f04 c05 f05
 have LP:=L.putI (by omega) (by first | (simp; done) | (simp; omega)) (ng Ma) A5 (zl Ma) c5 Ea (ng Mb) B5 (zl Mb) d5 Eb
 obtain ⟨k0,k1,k2,k3,k4,k5⟩:=LP.b0.a6
 unfold put6 at k0 k1 k2 k3 k4 k5
 exact bodyPost_ret (v:=.tuple #[.agg #[.bool (ng Ma), .slice A5 (zl Ma) c5, .int .i64 Ea, .bool (ng Mb), .slice B5 (zl Mb) d5, .int .i64 Eb], .int .i64 0]) (by simp [results, Tryz.results33, go_sem, k0, k1, k2, k3, k4, k5]) rfl ⟨FA, FB, hOK, _, rfl, by rw [hMa, hEa, hMb, hEb]; exact isI_n (LP.getN (by simp)) (LP.getN (by simp)), LP.below⟩
theorem ysin_err (m e n f k M E N F er : Int) (vx : Value) (w : World) (hx : IsI w vx m e n f) (h : ∀ (x : Value) (W : World), IsI W x m e n f → Below w.heap.size w W → Calls Tryz.prog 86 #[x, .int .i64 k, .int .i64 0] W (RetIE W M E N F er)) :
  Calls Tryz.prog 33 #[vx, .int .i64 k] w (RetIE w M E N F er):=by
 obtain ⟨A, c, B, d, rfl, hn1, hn2⟩:=hx.form
 have L0:=((Lq.mk0 w).n hn2).n hn1
 have G0:=Hd9 h
 clear h hx hn1 hn2
 go_enter Tryz.func33, Tryz.ntmps33
 have L:=((L0.varI (w.heap.size) (by simp) (ng m) A (zl m) c e (ng n) B (zl n) d f).varI (w.heap.size + 1) (by simp) false none 0 0 0 false none 0 0 0)
 obtain ⟨c10,c11,c12,c13,c14,c15⟩:=L.tl.b0.a6
 (try go_wp2_with fail)
 refine (G0.out _ _ (isI_n (m:=m) (e:=e) (n:=n) (f:=f) (s:=.slice A (zl m) c) (t:=.slice B (zl n) d) (L.getN (by simp)) (L.getN (by simp))) L.below).mono ?_
 rintro e w1 ⟨v9, rfl, ii, be⟩
 clear c10 c11 c12 c13 c14 c15
 obtain ⟨A5, c5, B5, d5, rfl, ia, ib⟩:=ii.form
 replace L:=((L.step be).n ib).n ia
 clear be ii ia ib
 have L9:=L.subx (ns':=[(.slice A5 (zl M) c5, M.natAbs), (.slice B5 (zl N) d5, N.natAbs)]) (bs':=[(w.heap.size + 1, 28, #[.bool false, .slice none 0 0, .int .i64 0, .bool false, .slice none 0 0, .int .i64 0])]) (by simp) (by simp)
 clear L
 have L:=L9
 clear L9
 obtain ⟨c00,c01,c02,c03,c04,c05⟩:=L.b0.a6
 obtain ⟨f00,f01,f02,f03,f04,f05⟩:=L.b0.f6
 (try go_wp2_with fail)
 clear c00 f00 c01 f01 c02 f02 c03 f03 c04 f04 c05 f05
 have LP:=L.putI (by omega) (by first | (simp; done) | (simp; omega)) (ng M) A5 (zl M) c5 E (ng N) B5 (zl N) d5 F
 obtain ⟨k0,k1,k2,k3,k4,k5⟩:=LP.b0.a6
 unfold put6 at k0 k1 k2 k3 k4 k5
 exact bodyPost_ret (v:=.tuple #[.agg #[.bool (ng M), .slice A5 (zl M) c5, .int .i64 E, .bool (ng N), .slice B5 (zl N) d5, .int .i64 F], .int .i64 er]) (by simp [results, Tryz.results33, go_sem, k0, k1, k2, k3, k4, k5]) rfl ⟨_, rfl, isI_n (LP.getN (by simp)) (LP.getN (by simp)), LP.below⟩
theorem ycos_yes (m e n f : Int) (k : Nat) (vx : Value) (w : World) (hx : IsI w vx m e n f) (lm : zl m ≤ 20) (ln : zl n ≤ 20) (he : -900 ≤ e ∧ e ≤ 900) (hf : -900 ≤ f ∧ f ≤ 900) (hv : Dv m e) (hv2 : Dv n f) (hsm : smallB m e n f = true) (h1 : Ab (dq m e) 4294967296) (h2 : Ab (dq n f) 4294967296) (hk : k ≤ 176) (hT : Tab w) :
  Calls Tryz.prog 34 #[vx, .int .i64 (k : Int)] w (RetCi w 1 k (dq m e) (dq n f)):=by
 obtain ⟨A, c, B, d, rfl, hn1, hn2⟩:=hx.form
 have L0:=((Lq.mk0 w).n hn2).n hn1
 have g0:=fun x W h (hW : Below w.heap.size w W) => yimg_yes m e n f 1 k x W h lm ln he hf hv hv2 hsm h1 h2 (by decide) hk (hT.mono hW)
 obtain ⟨d1, hd1⟩:=nm9 (dq m e)
 obtain ⟨d2, hd2⟩:=nm9 (dq n f)
 rw [hd1, hd2] at g0 ⊢
 have G0:=Hd9 g0
 clear g0 hx lm ln he hf hv hv2 hsm h1 h2 hk hT hd1 hd2 hn1 hn2
 go_enter Tryz.func34, Tryz.ntmps34
 have L:=((L0.varI (w.heap.size) (by simp) (ng m) A (zl m) c e (ng n) B (zl n) d f).varI (w.heap.size + 1) (by simp) false none 0 0 0 false none 0 0 0)
 obtain ⟨c10,c11,c12,c13,c14,c15⟩:=L.tl.b0.a6
 (try go_wp2_with fail)
 refine (G0.out _ _ (isI_n (m:=m) (e:=e) (n:=n) (f:=f) (s:=.slice A (zl m) c) (t:=.slice B (zl n) d) (L.getN (by simp)) (L.getN (by simp))) L.below).mono ?_
 rintro e w1 ⟨FA, FB, hOK, v9, rfl, ii, be⟩
 clear c10 c11 c12 c13 c14 c15
 obtain ⟨A5, c5, B5, d5, rfl, ia, ib⟩:=ii.form
 replace L:=((L.step be).n ib).n ia
 clear be ii ia ib
 obtain ⟨Ma, hMa⟩:=nm9 (mkM FA (-(k : Int)))
 obtain ⟨Ea, hEa⟩:=nm9 (mkE FA (-(k : Int)))
 obtain ⟨Mb, hMb⟩:=nm9 (mkM FB (-(k : Int)))
 obtain ⟨Eb, hEb⟩:=nm9 (mkE FB (-(k : Int)))
 rw [hMa, hMb] at L ⊢
 rw [hEa, hEb]
 have L9:=L.subx (ns':=[(.slice A5 (zl Ma) c5, Ma.natAbs), (.slice B5 (zl Mb) d5, Mb.natAbs)]) (bs':=[(w.heap.size + 1, 28, #[.bool false, .slice none 0 0, .int .i64 0, .bool false, .slice none 0 0, .int .i64 0])]) (by simp) (by simp)
 clear L
 have L:=L9
 clear L9
 obtain ⟨c00,c01,c02,c03,c04,c05⟩:=L.b0.a6
 obtain ⟨f00,f01,f02,f03,f04,f05⟩:=L.b0.f6
 (try go_wp2_with fail)
 clear c00 f00 c01 f01 c02 f02 c03 f03 c04 f04 c05 f05
 have LP:=L.putI (by omega) (by first | (simp; done) | (simp; omega)) (ng Ma) A5 (zl Ma) c5 Ea (ng Mb) B5 (zl Mb) d5 Eb
 obtain ⟨k0,k1,k2,k3,k4,k5⟩:=LP.b0.a6
 unfold put6 at k0 k1 k2 k3 k4 k5
 exact bodyPost_ret (v:=.tuple #[.agg #[.bool (ng Ma), .slice A5 (zl Ma) c5, .int .i64 Ea, .bool (ng Mb), .slice B5 (zl Mb) d5, .int .i64 Eb], .int .i64 0]) (by simp [results, Tryz.results34, go_sem, k0, k1, k2, k3, k4, k5]) rfl ⟨FA, FB, hOK, _, rfl, by rw [hMa, hEa, hMb, hEb]; exact isI_n (LP.getN (by simp)) (LP.getN (by simp)), LP.below⟩
theorem ycos_err (m e n f k M E N F er : Int) (vx : Value) (w : World) (hx : IsI w vx m e n f) (h : ∀ (x : Value) (W : World), IsI W x m e n f → Below w.heap.size w W → Calls Tryz.prog 86 #[x, .int .i64 k, .int .i64 1] W (RetIE W M E N F er)) :
  Calls Tryz.prog 34 #[vx, .int .i64 k] w (RetIE w M E N F er):=by
 obtain ⟨A, c, B, d, rfl, hn1, hn2⟩:=hx.form
 have L0:=((Lq.mk0 w).n hn2).n hn1
 have G0:=Hd9 h
 clear h hx hn1 hn2
 go_enter Tryz.func34, Tryz.ntmps34
 have L:=((L0.varI (w.heap.size) (by simp) (ng m) A (zl m) c e (ng n) B (zl n) d f).varI (w.heap.size + 1) (by simp) false none 0 0 0 false none 0 0 0)
 obtain ⟨c10,c11,c12,c13,c14,c15⟩:=L.tl.b0.a6
 (try go_wp2_with fail)
 refine (G0.out _ _ (isI_n (m:=m) (e:=e) (n:=n) (f:=f) (s:=.slice A (zl m) c) (t:=.slice B (zl n) d) (L.getN (by simp)) (L.getN (by simp))) L.below).mono ?_
 rintro e w1 ⟨v9, rfl, ii, be⟩
 clear c10 c11 c12 c13 c14 c15
 obtain ⟨A5, c5, B5, d5, rfl, ia, ib⟩:=ii.form
 replace L:=((L.step be).n ib).n ia
 clear be ii ia ib
 have L9:=L.subx (ns':=[(.slice A5 (zl M) c5, M.natAbs), (.slice B5 (zl N) d5, N.natAbs)]) (bs':=[(w.heap.size + 1, 28, #[.bool false, .slice none 0 0, .int .i64 0, .bool false, .slice none 0 0, .int .i64 0])]) (by simp) (by simp)
 clear L
 have L:=L9
 clear L9
 obtain ⟨c00,c01,c02,c03,c04,c05⟩:=L.b0.a6
 obtain ⟨f00,f01,f02,f03,f04,f05⟩:=L.b0.f6
 (try go_wp2_with fail)
 clear c00 f00 c01 f01 c02 f02 c03 f03 c04 f04 c05 f05
 have LP:=L.putI (by omega) (by first | (simp; done) | (simp; omega)) (ng M) A5 (zl M) c5 E (ng N) B5 (zl N) d5 F
 obtain ⟨k0,k1,k2,k3,k4,k5⟩:=LP.b0.a6
 unfold put6 at k0 k1 k2 k3 k4 k5
 exact bodyPost_ret (v:=.tuple #[.agg #[.bool (ng M), .slice A5 (zl M) c5, .int .i64 E, .bool (ng N), .slice B5 (zl N) d5, .int .i64 F], .int .i64 er]) (by simp [results, Tryz.results34, go_sem, k0, k1, k2, k3, k4, k5]) rfl ⟨_, rfl, isI_n (LP.getN (by simp)) (LP.getN (by simp)), LP.below⟩

theorem nfc (n M E : Int) (hn : n.natAbs ≤ 2 ^ 20) (hv : Dv M E) (h : dq M E = dq n 0) : mkM n 0 = M ∧ mkE n 0 = E:=by
 obtain ⟨a1, _, _, _, _, a6⟩:=nf (t:=n) (v:=20) hn (by omega)
 exact dv_uniq (mk_ok a1) hv (by rw [a6, h])
theorem nfx (n M E : Int) (k : Nat) (hk : k ≤ 100) (hn : n.natAbs ≤ 2 ^ 20) (hv : Dv M E) (h : dq M E = dq n (-(k : Int))) : mkM n (-(k : Int)) = M ∧ mkE n (-(k : Int)) = E:=by
 obtain ⟨a1, _, _, _, a6⟩:=nx (T:=n) (x := -(k : Int)) (j:=20) hn (by omega) (by omega)
 exact dv_uniq (mk_ok a1) hv (by rw [a6, h])
theorem dv_one : Dv 1 0:=Or.inr ⟨by decide, by decide +kernel⟩
theorem dv_mone : Dv (-1) 0:=Or.inr ⟨by decide, by decide +kernel⟩
theorem dv_seven : Dv 7 0:=Or.inr ⟨by decide, by decide +kernel⟩
theorem dv_nil : Dv 0 0:=Or.inl ⟨rfl, rfl⟩
theorem c_m1 : mkM (-1) 0 = -1 ∧ mkE (-1) 0 = 0:=nfc (-1) (-1) 0 (by decide) dv_mone rfl
theorem c_1 : mkM 1 0 = 1 ∧ mkE 1 0 = 0:=nfc 1 1 0 (by decide) dv_one rfl
theorem c_7 : mkM 7 0 = 7 ∧ mkE 7 0 = 0:=nfc 7 7 0 (by decide) dv_seven rfl
theorem c_0 : mkM 0 0 = 0 ∧ mkE 0 0 = 0:=nfc 0 0 0 (by decide) dv_nil rfl
theorem c_64 : mkM 64 (-((6 : Nat) : Int)) = 1 ∧ mkE 64 (-((6 : Nat) : Int)) = 0:=nfx 64 1 0 6 (by omega) (by decide) dv_one (by decide +kernel)
theorem c_m64 : mkM (-64) (-((6 : Nat) : Int)) = -1 ∧ mkE (-64) (-((6 : Nat) : Int)) = 0:=nfx (-64) (-1) 0 6 (by omega) (by decide) dv_mone (by decide +kernel)
theorem hP_up : hP ≤ 17 / 10:=by
 have:=hP_ab.2
 have : (8 : Rat) / 5 + 1 / 20 ≤ 17 / 10:=by decide +kernel
 unfold Ab at *
 grind
theorem cos_wake {A B : Int} (h : CiOk 1 6 (dq (-1) 0) (dq 1 0) A B) : B = 64:=by
 have:=h.hi.at1 0 (by decide) (by rw [dq_int, show ((0 : Int) : Rat) = 0 from rfl, show ((-1 : Int) : Rat) = -1 from rfl]; grind) (by rw [dq_int, show ((0 : Int) : Rat) = 0 from rfl, show ((1 : Int) : Rat) = 1 from rfl]; grind)
 omega
theorem sin_wake {A B : Int} (h : CiOk 0 6 (dq 0 0) (dq 7 0) A B) : A = -64 ∧ B = 64:=by
 have hl:=hP_lo
 have hu:=hP_up
 have n : (3 : Rat) * (17 / 10) ≤ 7:=by decide +kernel
 have n2 : (17 : Rat) / 10 ≤ 7:=by decide +kernel
 have e7 : dq 7 0 = 7:=dq_int 7
 have e0 : dq 0 0 = 0:=dq_zero 0
 rw [e7, e0] at h
 have a:=h.lo.at1 3 (by decide) (by rw [show ((3 : Int) : Rat) = 3 from rfl]; grind) (by rw [show ((3 : Int) : Rat) = 3 from rfl]; grind)
 have b:=h.hi.at1 1 (by decide) (by rw [show ((1 : Int) : Rat) = 1 from rfl]; grind) (by rw [show ((1 : Int) : Rat) = 1 from rfl]; grind)
 constructor <;> omega
theorem zl_sm {n : Int} (h : n.natAbs < 4294967296) : zl n ≤ 1:=len_le1 h

theorem awake17_any (w : World) (hT : Tab w) :
  Calls Tryz.prog 21 #[] w (RetB w true):=by
 have z1 : zl 1 ≤ 1:=zl_sm (by decide)
 have z2 : zl (-1) ≤ 1:=zl_sm (by decide)
 have z0 : zl 0 ≤ 1:=zl_sm (by decide)
 have z7 : zl 7 ≤ 1:=zl_sm (by decide)
 have i1 : Ab (dq (-1) 0) 4294967296:=by rw [dq_int]; unfold Ab; decide +kernel
 have i2 : Ab (dq 1 0) 4294967296:=by rw [dq_int]; unfold Ab; decide +kernel
 have i3 : Ab (dq 0 0) 4294967296:=by rw [dq_int]; unfold Ab; decide +kernel
 have i4 : Ab (dq 7 0) 4294967296:=by rw [dq_int]; unfold Ab; decide +kernel
 have g1:=fun W => of17_any (-1) 1 W (by omega) (by omega)
 rw [c_1.1, c_1.2] at g1
 have g2:=fun v W h (hW : Below w.heap.size w W) => ycos_yes (-1) 0 1 0 6 v W h (by omega) (by omega) (by omega) (by omega) dv_mone dv_one (by decide +kernel) i1 i2 (by omega) (hT.mono hW)
 have g3:=fun W => of17_any 0 7 W (by omega) (by omega)
 rw [c_0.1, c_0.2, c_7.1, c_7.2] at g3
 have g4:=fun v W h (hW : Below w.heap.size w W) => ysin_yes 0 0 7 0 6 v W h (by omega) (by omega) (by omega) (by omega) dv_nil dv_seven (by decide +kernel) i3 i4 (by omega) (hT.mono hW)
 have g5:=fun W => rof8_any 1 W (by omega) (by omega)
 rw [c_1.1, c_1.2] at g5
 obtain ⟨q, hq⟩ : ∃ q : Int, (-1 : Int) = q:=⟨_, rfl⟩
 have nq : mkM (-1) 0 = q ∧ mkE (-1) 0 = 0:=by rw [← hq]; exact c_m1
 rw [nq.1, nq.2] at g1
 rw [hq] at g2 z2
 have g6 : ∀ v u W, IsD W v 1 0 → IsD W u 1 0 → Calls Tryz.prog 73 #[v, u] W (RetB W true):=fun v u W h k => by
  have s:=same8_any 1 0 1 0 v u W h k
  rwa [show (decide ((0 : Int) = 0) && decide ((1 : Int) = 1)) = true from by decide] at s
 have g7 : ∀ v u W, IsI W v q 0 1 0 → IsI W u q 0 1 0 → Calls Tryz.prog 36 #[v, u] W (RetB W true):=fun v u W h k => by
  have s:=r10same_any q 0 1 0 q 0 1 0 v u W h k (by omega) (by omega) (by omega) (by omega) (by omega) (by omega) (by omega) (by omega)
  rwa [show ((decide ((0 : Int) = 0) && decide (q = q)) && (decide ((0 : Int) = 0) && decide ((1 : Int) = 1))) = true from by simp] at s
 have c3q : mkM (-64) (-((6 : Nat) : Int)) = q:=by rw [← hq]; exact c_m64.1
 have HQ:=Hd9 (fun A B (h : CiOk 1 6 (dq q 0) (dq 1 0) A B) => cos_wake (A:=A) (B:=B) (by rw [hq]; exact h))
 clear hq nq hT i1 i2 i3 i4
 have G1:=Hd9 g1
 have G2:=Hd9 g2
 have G3:=Hd9 g3
 have G4:=Hd9 g4
 have G5:=Hd9 g5
 have G6:=Hd9 g6
 have G7:=Hd9 g7
 clear g1 g2 g3 g4 g5 g6 g7
 go_enter Tryz.func21, Tryz.ntmps21
 go_wp2_with fail
 have L:=Lq.mk0 w
 (try go_wp2_with fail)
 refine (G1.out _).mono ?_
 rintro e w1 ⟨vv, rfl, ii, be⟩
 obtain ⟨A1, c1, B1, d1, rfl, ia, ib⟩:=ii.form
 replace L:=((L.step be).n ib).n ia
 clear be ii ia ib
 have hl2:=L.below.size
 (try go_wp2_with fail)
 refine (G2.out _ _ (isI_n (m:=q) (e:=0) (n:=1) (f:=0) (s:=.slice A1 (zl q) c1) (t:=.slice B1 (zl 1) d1) (L.getN (by simp)) (L.getN (by simp))) L.below).mono ?_
 rintro e w2 ⟨FA, FB, hOK, vv, rfl, ii, be⟩
 obtain ⟨A2, c2, B2, d2, rfl, ia, ib⟩:=ii.form
 replace L:=((L.step be).n ib).n ia
 clear be ii ia ib hl2
 have hl2:=L.below.size
 have hB:=HQ.out _ _ hOK
 subst hB
 rw [c_64.1] at L ⊢
 rw [c_64.2]
 obtain ⟨Mc, hMc⟩:=nm9 (mkM FA (-((6 : Nat) : Int)))
 obtain ⟨Ec, hEc⟩:=nm9 (mkE FA (-((6 : Nat) : Int)))
 rw [hMc] at L ⊢
 rw [hEc]
 clear hMc hEc hOK
 replace L:=L.varI w2.heap.size rfl (ng Mc) A2 (zl Mc) c2 Ec (ng 1) B2 (zl 1) d2 0
 obtain ⟨cel00,cel01,cel02,cel03,cel04,cel05⟩:=L.b0.a6
 obtain ⟨f00,f01,f02,f03,f04,f05⟩:=L.b0.f6
 go_wp2_with fail
 clear cel00 f00 cel01 f01 cel02 f02 cel03 f03 cel04 f04 cel05 f05
 obtain ⟨b1, hb1⟩:=nm9 (w2.heap.size)
 rw [hb1] at L hl2 ⊢
 clear hb1
 refine (G3.out _).mono ?_
 rintro e w3 ⟨vv, rfl, ii, be⟩
 obtain ⟨A3, c3, B3, d3, rfl, ia, ib⟩:=ii.form
 replace L:=((L.step be).n ib).n ia
 clear be ii ia ib
 clear hl2
 have hl2:=L.b0.lt
 (try go_wp2_with fail)
 refine (G4.out _ _ (isI_n (m:=0) (e:=0) (n:=7) (f:=0) (s:=.slice A3 (zl 0) c3) (t:=.slice B3 (zl 7) d3) (L.getN (by simp)) (L.getN (by simp))) L.below).mono ?_
 rintro e w4 ⟨FC, FD, hOK, vv, rfl, ii, be⟩
 obtain ⟨A4, c4, B4, d4, rfl, ia, ib⟩:=ii.form
 replace L:=((L.step be).n ib).n ia
 clear be ii ia ib hl2
 have hl2:=L.b0.lt
 obtain ⟨hA, hB⟩:=sin_wake hOK
 subst hA hB
 rw [c_64.1, c3q] at L ⊢
 rw [c_64.2, c_m64.2]
 clear hOK
 replace L:=L.varI w4.heap.size rfl (ng q) A4 (zl q) c4 0 (ng 1) B4 (zl 1) d4 0
 obtain ⟨cel00,cel01,cel02,cel03,cel04,cel05⟩:=L.b0.a6
 obtain ⟨f00,f01,f02,f03,f04,f05⟩:=L.b0.f6
 go_wp2_with fail
 clear cel00 f00 cel01 f01 cel02 f02 cel03 f03 cel04 f04 cel05 f05
 obtain ⟨b2, hb2⟩:=nm9 (w4.heap.size)
 rw [hb2] at L hl2 ⊢
 clear hb2
 replace L:=L.drew
 obtain ⟨cel00,cel01,cel02,cel03,cel04,cel05⟩:=L.b0.a6
 obtain ⟨cel10,cel11,cel12,cel13,cel14,cel15⟩:=L.tl.b0.a6
 go_region_held3 (fun w' => w'.cell? ⟨b1, 3, none⟩ = some (.bool (ng 1)) ∧ w'.cell? ⟨b1, 4, none⟩ = some (.slice B2 (zl 1) d2) ∧ w'.cell? ⟨b1, 5, none⟩ = some (.int .i64 0) ∧ w'.cell? ⟨b2, 0, none⟩ = some (.bool (ng q)) ∧ w'.cell? ⟨b2, 1, none⟩ = some (.slice A4 (zl q) c4) ∧ w'.cell? ⟨b2, 2, none⟩ = some (.int .i64 0) ∧ w'.cell? ⟨b2, 3, none⟩ = some (.bool (ng 1)) ∧ w'.cell? ⟨b2, 4, none⟩ = some (.slice B4 (zl 1) d4) ∧ w'.cell? ⟨b2, 5, none⟩ = some (.int .i64 0)) (first | (with_reducible exact ⟨L.tl.b0.c63, L.tl.b0.c64, L.tl.b0.c65, L.b0.c60, L.b0.c61, L.b0.c62, L.b0.c63, L.b0.c64, L.b0.c65⟩) | exact ⟨L.tl.b0.c63, L.tl.b0.c64, L.tl.b0.c65, L.b0.c60, L.b0.c61, L.b0.c62, L.b0.c63, L.b0.c64, L.b0.c65⟩) (first | (go_at_call 25; (with_reducible refine (G5.out _ ).mono ?_); rintro e wh ⟨vh, rfl, id, be⟩; obtain ⟨A7, c7, rfl, _, in9⟩:=id.form; replace L:=(L.step be).n in9; clear be id in9) | (go_at_call 73; (with_reducible refine (G6.out _ _ _ ?_ ?_ ).mono ?_); (· (refine isD_n (L.getN ?_); (repeat (first | (with_reducible exact mS) | apply mT)))); (· (refine isD_n (L.getN ?_); (repeat (first | (with_reducible exact mS) | apply mT)))); rintro e wh ⟨rfl, be⟩; replace L:=L.step be; clear be) | (go_at_call 45; (with_reducible refine (G1.out _ ).mono ?_); rintro e wh ⟨vh, rfl, ii, be⟩; obtain ⟨A8, c8, B8, d8, rfl, ia, ib⟩:=ii.form; replace L:=((L.step be).n ib).n ia; clear be ii ia ib) | (go_at_call 36; (with_reducible refine (G7.out _ _ _ ?_ ?_ ).mono ?_); (· (refine isI_n (L.getN ?_) (L.getN ?_); all_goals (repeat (first | (with_reducible exact mS) | apply mT)))); (· (refine isI_n (L.getN ?_) (L.getN ?_); all_goals (repeat (first | (with_reducible exact mS) | apply mT)))); rintro e wh ⟨rfl, be⟩; replace L:=L.step be; clear be))
 (try go_wp2_with fail)
 (try go_ret)
 exact ⟨rfl, L.below⟩
structure ArgY (j : Nat) (m e n f : Int) : Prop where
 vm : Dv m e
 vn : Dv n f
 le : dq m e ≤ dq n f
 zm : zl m ≤ 3
 zn : zl n ≤ 3
 em : m = 0 ∨ (-40 - 15 * (j : Int) ≤ e ∧ e ≤ 136 - 15 * (j : Int))
 en : n = 0 ∨ (-40 - 15 * (j : Int) ≤ f ∧ f ≤ 136 - 15 * (j : Int))
theorem ArgY.small {j : Nat} {m e n f : Int} (h : ArgY j m e n f) (hj : j ≤ 40) : (-1000 ≤ e ∧ e ≤ 1000) ∧ (-1000 ≤ f ∧ f ≤ 1000):=by
 have h1:=h.em
 have h2:=h.en
 constructor
 ·rcases h1 with h1 | h1
  ·have:=dv_zero h.vm h1
   omega
  ·omega
 ·rcases h2 with h2 | h2
  ·have:=dv_zero h.vn h2
   omega
  ·omega
theorem ArgY.more {j : Nat} {m e n f far : Int} (h : ArgY j m e n f) (hf : 0 ≤ far) (ht : far < topZ m e ∨ far < topZ n f) : j ≤ 15:=by
 have z1:=blen_le_len m.natAbs
 have z2:=blen_le_len n.natAbs
 have e1 : zl m = len m.natAbs:=rfl
 have e2 : zl n = len n.natAbs:=rfl
 have h1:=h.zm
 have h2:=h.zn
 rcases ht with ht | ht <;> unfold topZ at ht <;> split at ht
 ·omega
 ·rcases h.em with h3 | h3
  ·contradiction
  ·omega
 ·omega
 ·rcases h.en with h3 | h3
  ·contradiction
  ·omega
theorem ArgY.step {j : Nat} {m e n f : Int} (h : ArgY j m e n f) (hj : j ≤ 40) : ArgY (j + 1) (mkM m (e + -15)) (mkE m (e + -15)) (mkM n (f + -15)) (mkE n (f + -15)):=by
 obtain ⟨s1, s2⟩:=h.small hj
 obtain ⟨_, a1, a2, a3, a4⟩:=dv_shift (s := -15) h.vm h.zm (by omega) (by omega)
 obtain ⟨_, b1, b2, b3, b4⟩:=dv_shift (s := -15) h.vn h.zn (by omega) (by omega)
 refine ⟨a3, b3, ?_, by rw [a1]; exact h.zm, by rw [b1]; exact h.zn, ?_, ?_⟩
 ·rw [a4, b4]
  exact Rat.mul_le_mul_of_nonneg_right h.le (Rat.le_of_lt (dq_pos _))
 ·rw [a1]
  rcases a2 with a2 | a2
  ·exact Or.inl a2
  ·rw [a2]
   rcases h.em with h1 | h1
   ·exact Or.inl h1
   ·exact Or.inr (by omega)
 ·rw [b1]
  rcases b2 with b2 | b2
  ·exact Or.inl b2
  ·rw [b2]
   rcases h.en with h1 | h1
   ·exact Or.inl h1
   ·exact Or.inr (by omega)
theorem ArgY.first {m e n f : Int} (h1 : Dv m e) (h2 : Dv n f) (hl : dcm m e n f ≤ 0) (z1 : zl m ≤ 2 + 1) (z2 : zl n ≤ 2 + 1) (he : -((40 : Nat) : Int) ≤ e ∧ e ≤ ((40 : Nat) : Int) + 32 * (((2 : Nat) : Int) + 1)) (hf : -((40 : Nat) : Int) ≤ f ∧ f ≤ ((40 : Nat) : Int) + 32 * (((2 : Nat) : Int) + 1)) : ArgY 0 m e n f:=
 ⟨h1, h2, (dcm_le _ _ _ _).1 hl, z1, z2, Or.inr (by omega), Or.inr (by omega)⟩
def RetArgY (w : World) (far : Int) (en : Ending) (w' : World) : Prop:=∃ v ok m e n f, en = .returned (.tuple #[v, .bool ok]) ∧ IsI w' v m e n f ∧ Below w.heap.size w w' ∧ (ok = true → ∃ j, j ≤ 17 ∧ ArgY j m e n f ∧ topZ m e ≤ far ∧ topZ n f ≤ far)

theorem s17arg_any (b b' : Bool) (l l' : List Nat) (A A' : Option Addr) (p c p' c' : Nat) (e0 e1 far : Int) (w : World) (h : Sl w A p c l) (h' : Sl w A' p' c' l') (h1 : -9223372036854775808 ≤ e0) (h2 : e0 ≤ 9223372036854775807) (h3 : -9223372036854775808 ≤ e1) (h4 : e1 ≤ 9223372036854775807) (hfar : 0 ≤ far ∧ far ≤ 100) :
  Calls Tryz.prog 22 #[.agg #[.bool b, .slice A p c, .int .i64 e0, .bool b', .slice A' p' c', .int .i64 e1], .int .i64 far] w (RetArgY w far):=by
 have H0:=Hd9 (fun W (hW : Below w.heap.size w W) => millI_any b b' l l' 2 40 A A' p c p' c' e0 e1 W (h.mono hW) (h'.mono hW) (by omega) (by omega) h1 h2 h3 h4)
 clear h h' h1 h2 h3 h4
 go_enter Tryz.func22, Tryz.ntmps22
 go_wp2_with fail
 have L:=(((Lq.mk0 w).varI (w.heap.size) (by simp) b A p c e0 b' A' p' c' e1).varI (w.heap.size + 1) (by simp) false none 0 0 0 false none 0 0 0)
 obtain ⟨c10,c11,c12,c13,c14,c15⟩:=L.tl.b0.a6
 (try go_wp2_with fail)
 refine (H0.out _ L.below).mono ?_
 rintro e w1 ⟨vv, ok, m, e, n, f, rfl, ii, zz, be1, bf1, hdv, hcm, be⟩
 clear c10 c11 c12 c13 c14 c15
 obtain ⟨A6, c6, B6, d6, rfl, ia, ib⟩:=ii.form
 replace L:=((L.step be).n ib).n ia
 clear be ii ia ib
 have hl0:=L.b0.lt
 have hl1:=L.tl.b0.lt
 replace L:=L.varI w1.heap.size rfl (ng m) A6 (zl m) c6 e (ng n) B6 (zl n) d6 f
 have HA:=Hd9 (fun h : ok = true => ArgY.first (hdv h).1 (hdv h).2 hcm zz.1 zz.2 be1 bf1)
 clear hdv hcm zz be1 bf1 H0
 cases ok
 ·clear hl0 hl1
  obtain ⟨c00,c01,c02,c03,c04,c05⟩:=L.b0.a6
  have LS:=L.subx (ns':=[(.slice A6 (zl m) c6, m.natAbs), (.slice B6 (zl n) d6, n.natAbs)]) (bs':=[(w.heap.size + 1, 28, #[.bool false, .slice none 0 0, .int .i64 0, .bool false, .slice none 0 0, .int .i64 0])]) (by simp) (by simp)
  obtain ⟨s0,s1,s2,s3,s4,s5⟩:=LS.b0.a6
  obtain ⟨r0,r1,r2,r3,r4,r5⟩:=LS.b0.f6
  go_wp2_with fail
  have LP:=LS.putI (by omega) (by simp) (ng m) A6 (zl m) c6 e (ng n) B6 (zl n) d6 f
  obtain ⟨k0,k1,k2,k3,k4,k5⟩:=LP.b0.a6
  unfold put6 at k0 k1 k2 k3 k4 k5
  exact bodyPost_ret (v:=.tuple #[.agg #[.bool (ng m), .slice A6 (zl m) c6, .int .i64 e, .bool (ng n), .slice B6 (zl n) d6, .int .i64 f], .bool false]) (by simp [results, Tryz.results22, go_sem, k0, k1, k2, k3, k4, k5]) rfl ⟨_, _, m, e, n, f, rfl, isI_n (LP.getN (by simp)) (LP.getN (by simp)), LP.below, (fun h => by cases h)⟩
 ·have HR:=Hd9 (HA.out rfl)
  clear HA
  obtain ⟨c00,c01,c02,c03,c04,c05⟩:=L.b0.a6
  go_wp2_with fail
  clear c00 c01 c02 c03 c04 c05
  obtain ⟨g6, hg6⟩:=nm9 (w1.heap.size)
  rw [hg6] at L hl0 hl1 ⊢
  clear hg6
  go_loopg [] 17 (fun k9 wr => ∃ (j : Nat) (m e n f : Int) (A6 B6 : Option Addr) (c6 d6 : Nat), j + k9 = 17 ∧ Lq w wr [(.slice A6 (zl m) c6, m.natAbs), (.slice B6 (zl n) d6, n.natAbs)] [] [] [(g6, 28, #[.bool (ng m), .slice A6 (zl m) c6, .int .i64 e, .bool (ng n), .slice B6 (zl n) d6, .int .i64 f]), (w.heap.size + 1, 28, #[.bool false, .slice none 0 0, .int .i64 0, .bool false, .slice none 0 0, .int .i64 0])] ∧ Hid (ArgY j m e n f))
  case atStart => exact ⟨0, m, e, n, f, A6, B6, c6, d6, by omega, L.subx (by simp) (by simp), HR⟩
  case round =>
   clear L HR
   obtain ⟨j, m, e, n, f, A6, B6, c6, d6, hjk, L, HR⟩:=hrel
   obtain ⟨sm1, sm2⟩:=HR.out.small (by omega)
   have zm:=HR.out.zm
   have zn:=HR.out.zn
   have t1:=fun x W h => rtop_any m e x W h (by omega) (by omega)
   have t2:=fun x W h => rtop_any n f x W h (by omega) (by omega)
   have k1:=fun x W h => rshift8_any m e (-15) x W h (by omega) (by omega) (by omega)
   have k2:=fun x W h => rshift8_any n f (-15) x W h (by omega) (by omega) (by omega)
   have hmore:=HR.out.more hfar.1
   have hst:=HR.out.step (show j ≤ 40 by omega)
   obtain ⟨T1, hT1⟩:=nm9 (topZ m e)
   rw [hT1] at t1 hmore
   obtain ⟨T2, hT2⟩:=nm9 (topZ n f)
   rw [hT2] at t2 hmore
   obtain ⟨M9, hM9⟩:=nm9 (mkM m (e + -15))
   rw [hM9] at k1 hst
   obtain ⟨E9, hE9⟩:=nm9 (mkE m (e + -15))
   rw [hE9] at k1 hst
   obtain ⟨R9, hR9⟩:=nm9 (mkR m (e + -15))
   rw [hR9] at k1
   obtain ⟨N9, hN9⟩:=nm9 (mkM n (f + -15))
   rw [hN9] at k2 hst
   obtain ⟨F9, hF9⟩:=nm9 (mkE n (f + -15))
   rw [hF9] at k2 hst
   obtain ⟨R8, hR8⟩:=nm9 (mkR n (f + -15))
   rw [hR8] at k2
   have HT1:=Hd9 t1
   have HT2:=Hd9 t2
   have HK1:=Hd9 k1
   have HK2:=Hd9 k2
   have HTE:=Hd9 (And.intro hT1 hT2)
   have HST:=Hd9 hst
   have hl0:=L.b0.lt
   clear t1 t2 k1 k2 hT1 hT2 hM9 hE9 hR9 hN9 hF9 hR8 hst sm1 sm2 zm zn
   rcases Int.lt_or_le far T1 with q1 | q1
   ·have hj:=hmore (Or.inl q1)
    have d1 : decide (far < T1) = true:=decide_eq_true q1
    obtain ⟨cel00,cel01,cel02,cel03,cel04,cel05⟩:=L.b0.a6
    go_wp2_with fail
    refine (HT1.out _ _ (isD_n (m:=m) (e:=e) (s:=.slice A6 (zl m) c6) (L.getN (by simp)))).mono ?_
    rintro e w21 ⟨rfl, be⟩
    clear cel00 cel01 cel02 cel03 cel04 cel05
    replace L:=L.step be
    clear be
    obtain ⟨cel00,cel01,cel02,cel03,cel04,cel05⟩:=L.b0.a6
    (try go_wp2_with fail)
    refine (HK1.out _ _ (isD_n (m:=m) (e:=e) (s:=.slice A6 (zl m) c6) (L.getN (by simp)))).mono ?_
    rintro e w22 ⟨vv, rfl, id, be⟩
    clear cel00 cel01 cel02 cel03 cel04 cel05
    obtain ⟨A7, c7, rfl, _, in9⟩:=id.form
    replace L:=(L.step be).n in9
    clear be id in9
    obtain ⟨cel00,cel01,cel02,cel03,cel04,cel05⟩:=L.b0.a6
    obtain ⟨f00,f01,f02,f03,f04,f05⟩:=L.b0.f6
    have P:=L.putLo (by omega) (by simp; omega) (ng M9) A7 (zl M9) c7 E9
    obtain ⟨p0,p1,p2,p3,p4,p5⟩:=P.b0.a6
    go_wp2_with fail
    replace L:=P
    clear P p0 p1 p2 p3 p4 p5
    clear cel00 f00 cel01 f01 cel02 f02 cel03 f03 cel04 f04 cel05 f05
    refine (HK2.out _ _ (isD_n (m:=n) (e:=f) (s:=.slice B6 (zl n) d6) (L.getN (by simp)))).mono ?_
    rintro e w23 ⟨vv, rfl, id, be⟩
    obtain ⟨A8, c8, rfl, _, in9⟩:=id.form
    replace L:=(L.step be).n in9
    clear be id in9
    obtain ⟨cel00,cel01,cel02,cel03,cel04,cel05⟩:=L.b0.a6
    obtain ⟨f00,f01,f02,f03,f04,f05⟩:=L.b0.f6
    have P:=L.putHi (by omega) (by simp; omega) (ng N9) A8 (zl N9) c8 F9
    go_wp2_with fail
    go_roundg (gk - 1)
    case measure => omega
    case rel => exact ⟨j + 1, M9, E9, N9, F9, A7, A8, c7, c8, by omega, P.subx (by simp) (by simp), HST⟩
   ·have d1 : decide (far < T1) = false:=decide_eq_false (by omega)
    obtain ⟨cel00,cel01,cel02,cel03,cel04,cel05⟩:=L.b0.a6
    go_wp2_with fail
    refine (HT1.out _ _ (isD_n (m:=m) (e:=e) (s:=.slice A6 (zl m) c6) (L.getN (by simp)))).mono ?_
    rintro e w21 ⟨rfl, be⟩
    clear cel00 cel01 cel02 cel03 cel04 cel05
    replace L:=L.step be
    clear be
    obtain ⟨cel00,cel01,cel02,cel03,cel04,cel05⟩:=L.b0.a6
    (try go_wp2_with fail)
    refine (HT2.out _ _ (isD_n (m:=n) (e:=f) (s:=.slice B6 (zl n) d6) (L.getN (by simp)))).mono ?_
    rintro e w22 ⟨rfl, be⟩
    clear cel00 cel01 cel02 cel03 cel04 cel05
    replace L:=L.step be
    clear be
    rcases Int.lt_or_le far T2 with q2 | q2
    ·have hj:=hmore (Or.inr q2)
     have d2 : decide (far < T2) = true:=decide_eq_true q2
     obtain ⟨cel00,cel01,cel02,cel03,cel04,cel05⟩:=L.b0.a6
     (try go_wp2_with fail)
     refine (HK1.out _ _ (isD_n (m:=m) (e:=e) (s:=.slice A6 (zl m) c6) (L.getN (by simp)))).mono ?_
     rintro e w23 ⟨vv, rfl, id, be⟩
     clear cel00 cel01 cel02 cel03 cel04 cel05
     obtain ⟨A7, c7, rfl, _, in9⟩:=id.form
     replace L:=(L.step be).n in9
     clear be id in9
     obtain ⟨cel00,cel01,cel02,cel03,cel04,cel05⟩:=L.b0.a6
     obtain ⟨f00,f01,f02,f03,f04,f05⟩:=L.b0.f6
     have P:=L.putLo (by omega) (by simp; omega) (ng M9) A7 (zl M9) c7 E9
     obtain ⟨p0,p1,p2,p3,p4,p5⟩:=P.b0.a6
     go_wp2_with fail
     replace L:=P
     clear P p0 p1 p2 p3 p4 p5
     clear cel00 f00 cel01 f01 cel02 f02 cel03 f03 cel04 f04 cel05 f05
     refine (HK2.out _ _ (isD_n (m:=n) (e:=f) (s:=.slice B6 (zl n) d6) (L.getN (by simp)))).mono ?_
     rintro e w24 ⟨vv, rfl, id, be⟩
     obtain ⟨A8, c8, rfl, _, in9⟩:=id.form
     replace L:=(L.step be).n in9
     clear be id in9
     obtain ⟨cel00,cel01,cel02,cel03,cel04,cel05⟩:=L.b0.a6
     obtain ⟨f00,f01,f02,f03,f04,f05⟩:=L.b0.f6
     have P:=L.putHi (by omega) (by simp; omega) (ng N9) A8 (zl N9) c8 F9
     go_wp2_with fail
     go_roundg (gk - 1)
     case measure => omega
     case rel => exact ⟨j + 1, M9, E9, N9, F9, A7, A8, c7, c8, by omega, P.subx (by simp) (by simp), HST⟩
    ·have d2 : decide (far < T2) = false:=decide_eq_false (by omega)
     obtain ⟨cel00,cel01,cel02,cel03,cel04,cel05⟩:=L.b0.a6
     have LS:=L.subx (ns':=[(.slice A6 (zl m) c6, m.natAbs), (.slice B6 (zl n) d6, n.natAbs)]) (bs':=[(w.heap.size + 1, 28, #[.bool false, .slice none 0 0, .int .i64 0, .bool false, .slice none 0 0, .int .i64 0])]) (by simp) (by simp)
     obtain ⟨s0,s1,s2,s3,s4,s5⟩:=LS.b0.a6
     obtain ⟨r0,r1,r2,r3,r4,r5⟩:=LS.b0.f6
     go_wp2_with fail
     have LP:=LS.putI (by omega) (by simp) (ng m) A6 (zl m) c6 e (ng n) B6 (zl n) d6 f
     obtain ⟨k0,k1,k2,k3,k4,k5⟩:=LP.b0.a6
     unfold put6 at k0 k1 k2 k3 k4 k5
     exact bodyPost_ret (v:=.tuple #[.agg #[.bool (ng m), .slice A6 (zl m) c6, .int .i64 e, .bool (ng n), .slice B6 (zl n) d6, .int .i64 f], .bool true]) (by simp [results, Tryz.results22, go_sem, k0, k1, k2, k3, k4, k5]) rfl ⟨_, _, m, e, n, f, rfl, isI_n (LP.getN (by simp)) (LP.getN (by simp)), LP.below, (fun _ => ⟨j, by omega, HR.out, by rw [HTE.out.1]; exact q1, by rw [HTE.out.2]; exact q2⟩)⟩
def RowZ (w : World) (v : Value) (l : List Int) : Prop:=∃ g c, v = .slice (some ⟨g, 0, none⟩) l.length c ∧ g < w.heap.size ∧ ∀ (j : Nat) (p : Int), l[j]? = some p → ∃ A c, w.cell? ⟨g, 2 * j, none⟩ = some (.bool (ng p)) ∧ w.cell? ⟨g, 2 * j + 1, none⟩ = some (.slice A (zl p) c) ∧ IsZ w (.agg #[.bool (ng p), .slice A (zl p) c]) p
theorem RowZ.mono {w w' : World} {v : Value} {l : List Int} (h : RowZ w v l) (hb : Below w.heap.size w w') : RowZ w' v l:=by
 obtain ⟨g, c, r, hg, h⟩:=h
 refine ⟨g, c, r, Nat.lt_of_lt_of_le hg hb.size, fun j p hp => ?_⟩
 obtain ⟨A, c, h1, h2, h3⟩:=h j p hp
 exact ⟨A, c, (hb.cell (p:=⟨g, 2 * j, none⟩) hg).trans h1, (hb.cell (p:=⟨g, 2 * j + 1, none⟩) hg).trans h2, h3.mono hb⟩
def LoopZ (l : List Int) (t : Nat) (a1 a2 : Int) : Prop:=a1 ∈ l ∧ a2 ∈ l ∧ ∀ (j : Nat) (p : Int), j < t → l[j]? = some p → a1 ≤ p ∧ p ≤ a2
theorem LoopZ.all {l : List Int} {a1 a2 : Int} {n : Nat} (hn : l.length = n) (h : LoopZ l n a1 a2) : (∀ q ∈ l, a1 ≤ q) ∧ ∀ q ∈ l, q ≤ a2:=by
 constructor <;> intro q hq <;> obtain ⟨j, hj, e⟩:=List.getElem_of_mem hq
 ·exact (h.2.2 j q (by omega) (by rw [← e]; exact List.getElem?_eq_getElem hj)).1
 ·exact (h.2.2 j q (by omega) (by rw [← e]; exact List.getElem?_eq_getElem hj)).2
structure ExS (v f t : Nat) (y : Rat) (a b p q : Int) : Prop where
 tf : t + f = v
 tm : SpC a b v (tm t y)
 sm : SpC p q v (esm (t + 1) y)
 aa : AbP a f
 bb : AbP b f
 pp : p.natAbs + 2 ^ f ≤ 2 ^ (v + 1)
 qq : q.natAbs + 2 ^ f ≤ 2 ^ (v + 1)
theorem ExS.first (v : Nat) (y : Rat) : ExS v v 0 y (2 ^ v) (2 ^ v) (2 ^ v) (2 ^ v):=by
 have h:=SpC.of 1 v
 rw [Int.one_mul, show ((1 : Int) : Rat) = 1 from rfl] at h
 have e : ((2 : Int) ^ v).natAbs = 2 ^ v:=by rw [Int.natAbs_pow]; rfl
 have h2 : ((2 : Int) ^ v).natAbs + 2 ^ v ≤ 2 ^ (v + 1):=by rw [e, Nat.pow_succ]; omega
 refine ⟨by omega, h, ?_, Nat.le_of_eq e, Nat.le_of_eq e, h2, h2⟩
 rwa [show esm (0 + 1) y = 1 from by show (0 : Rat) + 1 = 1; grind]
def sqbits (v i : Nat) : Nat:=v + (3 * 2 ^ i - 1)
structure ExD (v i : Nat) (y : Rat) (a b : Int) : Prop where
 rs : RSp a b v ((((2 : Nat) ^ i : Nat) : Rat) * y)
 aa : AbP a (sqbits v i)
 bb : AbP b (sqbits v i)
theorem ExD.first {v : Nat} {y : Rat} {a b : Int} (h : RSp a b v y) (ha : AbP a (sqbits v 0)) (hb : AbP b (sqbits v 0)) : ExD v 0 y a b:=
 ⟨by rwa [show (((2 : Nat) ^ 0 : Nat) : Rat) * y = y from by rw [Nat.pow_zero]; exact Rat.one_mul y], ha, hb⟩
theorem mk_val11 {m e : Int} {z : Nat} {M : Int} (h : mkR m e = 0) (hm : m ≠ 0) (hz : tz m.natAbs = z) (ho : oddM m = M) : mkM m e = M ∧ mkE m e = e + (z : Int):=by
 unfold mkM mkE
 rw [h, if_pos rfl, if_neg hm, if_pos rfl, ho]
 refine ⟨rfl, ?_⟩
 unfold oddE
 rw [hz]
theorem small11 {m : Int} (h : m.natAbs < 4294967296) : zl m ≤ 1900:=Nat.le_trans (len_le1 h) (by omega)
theorem mk_odd11 {M : Int} {z : Nat} {m e : Int} (hm : M * 2 ^ z = m) (ho : M.natAbs % 2 = 1) (hs : m.natAbs < 4294967296) (h1 : -4000 ≤ e) (h2 : e ≤ 4000) : mkM m e = M ∧ mkE m e = e + (z : Int):=by
 have h:=mk_fits (m:=m) (e:=e) (small11 hs) h1 h2
 have hm0 : m ≠ 0:=by
  have hM : M ≠ 0:=fun h0 => by rw [h0] at ho; exact absurd ho (by decide)
  rw [← hm]
  exact Int.mul_ne_zero hM (pow2_ne z)
 have hz : tz m.natAbs = z:=by rw [← hm, abs_shl]; exact tz_odd ho z
 have ho2 : oddM m = M:=by rw [← hm]; exact odd_shl ho z
 exact mk_val11 h hm0 hz ho2
theorem mk_one (j : Nat) (hj : j ≤ 100) : mkM 1 (-(j : Int)) = 1 ∧ mkE 1 (-(j : Int)) = -(j : Int) ∧ mkR 1 (-(j : Int)) = 0:=by
 have h:=mk_odd11 (M:=1) (z:=0) (m:=1) (e := -(j : Int)) (by decide) (by decide) (by decide) (by omega) (by omega)
 exact ⟨h.1, by rw [h.2]; omega, mk_fits (small11 (by decide)) (by omega) (by omega)⟩
theorem mk_one14 (j : Nat) (hj : j ≤ 100) : mkM 1 (-(j : Int)) = 1 ∧ mkE 1 (-(j : Int)) = -(j : Int) ∧ mkR 1 (-(j : Int)) = 0:=mk_one j hj

theorem small14 {m e n f : Int} (lm : zl m ≤ 60) (ln : zl n ≤ 60) (he : -8000 ≤ e ∧ e ≤ 3000) (hf : -8000 ≤ f ∧ f ≤ 3000) (hle : dcm m e n f ≤ 0) (tm : topZ m e ≤ 2048) (tn : topZ n f ≤ 2048) : smallB m e n f = true:=by
 have p8 : permB 8192 = true:=by decide
 unfold smallB onB
 rw [p8, decide_eq_true hle, decide_eq_true tm, decide_eq_true tn, decide_eq_true (show -8192 ≤ e by omega), decide_eq_true (show -8192 ≤ f by omega)]
 simp
structure ArgX (B m e n f : Int) : Prop where
 vm : Dv m e
 vn : Dv n f
 le : dq m e ≤ dq n f
 zm : zl m ≤ 60
 zn : zl n ≤ 60
 em : -3000 ≤ e ∧ e ≤ 3000
 en : -3000 ≤ f ∧ f ≤ 3000
 lo : -dq 1 B ≤ dq m e
 hi : dq n f ≤ dq 1 B
theorem ArgX.all {B m e n f : Int} (h : ArgX B m e n f) (hB : B ≤ 8) : smallB m e n f = true ∧ topZ m e ≤ 11 ∧ topZ n f ≤ 11 ∧ -256 ≤ dq m e ∧ dq n f ≤ 256:=by
 have v8 : dq 1 8 = 256:=by decide +kernel
 have v11 : dq 1 11 = 2048:=by decide +kernel
 have hb:=dq_anti hB
 rw [v8] at hb
 have l1 : -256 ≤ dq m e:=Rat.le_trans (Rat.neg_le_neg hb) h.lo
 have l2 : dq n f ≤ 256:=Rat.le_trans h.hi hb
 have l3:=h.le
 have tm : topZ m e ≤ 11:=by
  refine (top_iff (by omega)).2 ?_
  rw [v11]
  generalize dq m e = p at *
  generalize dq n f = q at *
  clear h hb
  constructor <;> grind
 have tn : topZ n f ≤ 11:=by
  refine (top_iff (by omega)).2 ?_
  rw [v11]
  generalize dq m e = p at *
  generalize dq n f = q at *
  clear h hb
  constructor <;> grind
 have em:=h.em
 have en:=h.en
 exact ⟨small14 h.zm h.zn (by omega) (by omega) ((dcm_le _ _ _ _).2 h.le) (by omega) (by omega), tm, tn, l1, l2⟩
section
open Go.ChangeShapes Go.WideShapes Go.ChangeAt

theorem open_slice8 {H : Type} {enc : TypeId × Value → H} {W : World} {base : Nat} {fuel : Nat} {v : Value} {x : DataW H × List MemPlace} (h : DataW.trod enc Tryz.prog W base (fun _ => true) true fuel 22 [v] = some x) : ∃ a n c l, v = .slice a n c ∧ Sl W a n c l:=by
 rcases open_ints Tryz.underlying22 Tryz.underlying140 (by kernel_rfl) h with ⟨hcs, _⟩ | ⟨x, l, c, zs, hcs, _, hl, hm, hz, _, hcell, hwz⟩
 ·exact ⟨none, 0, 0, [], by simpa using hcs, Sl.nil W⟩
 ·exact ⟨_, _, _, _, by simpa using hcs, sl_of_ints hl hm (by simpa using hz) hcell hwz⟩
end
section
open Go.ChangeShapes Go.WideShapes Go.ChangeAt

theorem array6 {a : Array Value} (h : a.size = 6) : ∃ x0 x1 x2 x3 x4 x5, a = #[x0, x1, x2, x3, x4, x5]:=by
 obtain ⟨l⟩:=a
 rcases l with _ | ⟨x0, _ | ⟨x1, _ | ⟨x2, _ | ⟨x3, _ | ⟨x4, _ | ⟨x5, _ | ⟨x6, l⟩⟩⟩⟩⟩⟩⟩ <;> first | exact ⟨_, _, _, _, _, _, rfl⟩ | (exfalso; simp at h)
theorem open_dy3 {H : Type} {enc : TypeId × Value → H} {W : World} {base n : Nat} {c0 c1 c2 : Value} {y : DataW H × List MemPlace} (h : DataW.trod enc Tryz.prog W base (fun _ => true) true n 26 [c0, c1, c2] = some y) :
  ∃ b A p c l e, c0 = .bool b ∧ c1 = .slice A p c ∧ c2 = .int .i64 e ∧ Sl W A p c l ∧ -9223372036854775808 ≤ e ∧ e ≤ 9223372036854775807:=by
 obtain ⟨y0, y1, n, _, _, h0, h1⟩:=trod_struct2 Tryz.underlying26 h
 have e0 : Tryz.prog.cellsOf 24 = 2:=by kernel_rfl
 have e1 : Tryz.prog.cellsOf 22 = 1:=by kernel_rfl
 have e3 : Tryz.prog.cellsOf 3 = 1:=by kernel_rfl
 have h0' : DataW.trod enc Tryz.prog W base (fun _ => true) true n 24 [c0, c1] = some y0:=by
  simpa [Value.cells, e0] using h0
 have h1' : DataW.trod enc Tryz.prog W base (fun _ => true) true n 3 [c2] = some y1:=by
  simpa [Value.cells, e0, e3] using h1
 obtain ⟨z0, z1, n2, _, _, g0, g1⟩:=trod_struct2 Tryz.underlying24 h0'
 have e2 : Tryz.prog.cellsOf 4 = 1:=by kernel_rfl
 have g0' : DataW.trod enc Tryz.prog W base (fun _ => true) true n2 4 [c0] = some z0:=by
  simpa [e2] using g0
 have g1' : DataW.trod enc Tryz.prog W base (fun _ => true) true n2 22 [c1] = some z1:=by
  simpa [e1, e2] using g1
 obtain ⟨b, hb, _⟩:=DataW.trod_bool Tryz.underlying4 g0'
 obtain rfl : c0 = .bool b:=by simpa using hb
 obtain ⟨A, n3, c3, l, rfl, s1⟩:=open_slice8 g1'
 obtain ⟨e, he, _, hw⟩:=DataW.trod_int Tryz.underlying3 h1'
 obtain rfl : c2 = .int .i64 e:=by simpa using he
 obtain ⟨k1, k2⟩:=bounds_i64 hw
 exact ⟨b, A, n3, c3, l, e, rfl, rfl, rfl, s1, k1, k2⟩
theorem open_iv {H : Type} {enc : TypeId × Value → H} {W : World} {r : Reach} {b0 base : Nat} {v : Value} {d : DataW H} {p : List MemPlace} (hv : Value.okWide Tryz.prog W r b0 28 v) (h : DataW.Trod enc Tryz.prog W base (fun _ => true) true 28 v d p) :
  ∃ b A n c l e b' A' n' c' l' e', v = .agg #[.bool b, .slice A n c, .int .i64 e, .bool b', .slice A' n' c', .int .i64 e'] ∧ (Sl W A n c l ∧ -9223372036854775808 ≤ e ∧ e ≤ 9223372036854775807) ∧ (Sl W A' n' c' l' ∧ -9223372036854775808 ≤ e' ∧ e' ≤ 9223372036854775807):=by
 obtain ⟨cs, rfl, hsz⟩:=okWide_struct Tryz.underlying28 hv
 obtain ⟨c0, c1, c2, c3, c4, c5, rfl⟩:=array6 (hsz.trans (show Tryz.prog.cellsOf 28 = 6 by kernel_rfl))
 obtain ⟨fuel, hf⟩:=h
 obtain ⟨y0, y1, n, _, _, h0, h1⟩:=trod_struct2 Tryz.underlying28 hf
 have e0 : Tryz.prog.cellsOf 26 = 3:=by kernel_rfl
 have h0' : DataW.trod enc Tryz.prog W base (fun _ => true) true n 26 [c0, c1, c2] = some y0:=by
  simpa [Value.cells, e0] using h0
 have h1' : DataW.trod enc Tryz.prog W base (fun _ => true) true n 26 [c3, c4, c5] = some y1:=by
  simpa [Value.cells, e0] using h1
 obtain ⟨b, A, n1, k, l, e, rfl, rfl, rfl, q1⟩:=open_dy3 h0'
 obtain ⟨b', A', n1', k', l', e', rfl, rfl, rfl, q2⟩:=open_dy3 h1'
 exact ⟨b, A, n1, k, l, e, b', A', n1', k', l', e', rfl, q1, q2⟩

end

end Go.Proofs.YtiddbhhhmeopeaaGreatDoor
