/- The walk of LogarithmFar: whatever the input, the law returns true and turns nothing that was there. -/
import Derived.Test.YtmgbjldogggpcaaGreatDoorJL5
import Derived.Test.YtmgbjldogggpcaaGreatDoorBaseWL
import Derived.Deep.RegionHeld3
import Derived.Deep.DrawnRows
import Derived.Deep.Cut
import Derived.Deep.CutRange
namespace Go.Proofs.YtmgbjldogggpcaaGreatDoor
set_option maxHeartbeats 64000000
open Go.RowKit
set_option linter.unusedVariables false
set_option linter.unusedSimpArgs false
set_option maxRecDepth 100000
attribute [local go_sem ↓] Go.wp_at_zero Go.wp_at_succ

theorem plainF2 (N0 N1 : Int) : Plain #[.int .i64 N0, .int .i64 N1]:=fun j x => by
 match j with
 | 0 => simp
 | 1 => simp
 | j + 2 => simp

theorem walk_LogarithmFar (b0 : Bool) (a0 : Option Addr) (len0 cap0 : Nat) (z0 : List Nat) (f0 : Int) (bb0 : Bool) (aa0 : Option Addr) (ll0 cc0 : Nat) (zz0 : List Nat) (ff0 : Int) (a1 : Int) (a2 : Int) (w : World) (h0 : Sl w a0 len0 cap0 z0 ∧ -9223372036854775808 ≤ f0 ∧ f0 ≤ 9223372036854775807) (k0 : Sl w aa0 ll0 cc0 zz0 ∧ -9223372036854775808 ≤ ff0 ∧ ff0 ≤ 9223372036854775807) (h1 : -9223372036854775808 ≤ a1 ∧ a1 ≤ 9223372036854775807) (h2 : -9223372036854775808 ≤ a2 ∧ a2 ≤ 9223372036854775807) (hT : Tab w) :
  Calls Tryz.prog 4 #[.agg #[.bool b0, .slice a0 len0 cap0, .int .i64 f0, .bool bb0, .slice aa0 ll0 cc0, .int .i64 ff0], .int .i64 a1, .int .i64 a2] w (fun e w' => e = .returned (.bool true) ∧ Below w.heap.size w w'):=by
 have HT:=Hd9 (fun W (hW : Below w.heap.size w W) => hT.mono hW)
 clear hT
 go_enter Tryz.func4, Tryz.ntmps4
 go_wp2_with fail
 have L:=((Lq.mk0 w).varI (w.heap.size) (by simp) b0 a0 len0 cap0 f0 bb0 aa0 ll0 cc0 ff0)
 (try go_wp2_with fail)
 refine (awake15_any _ (HT.out _ L.below)).mono ?_
 rintro e9 w1 ⟨rfl, be⟩
 replace L:=L.step be
 clear be
 obtain ⟨c00,c01,c02,c03,c04,c05⟩:=L.b0.a6
 (try go_wp2_with fail)
 refine (s15argT_any b0 bb0 z0 zz0 a0 aa0 len0 cap0 ll0 cc0 f0 ff0 _ (h0.1.mono L.below) (k0.1.mono L.below) h0.2.1 h0.2.2 k0.2.1 k0.2.2).mono ?_
 rintro e9 w2 ⟨vx, ok, m, e, n, f, rfl, ii, be, hok⟩
 clear c00 c01 c02 c03 c04 c05
 obtain ⟨A, c, B, d, rfl, ia, ib⟩:=ii.form
 replace L:=((L.step be).n ib).n ia
 clear be ii ia ib
 have hl9:=L.b0.lt
 replace L:=L.varI w2.heap.size rfl (ng m) A (zl m) c e (ng n) B (zl n) d f
 cases ok
 ·go_wp2_with fail
  go_ret
  exact ⟨rfl, L.below⟩
 have HX:=Hd9 (hok rfl)
 clear hok
 obtain ⟨k, hk⟩ : ∃ r : Nat, a2 % 60 = (r : Int):=⟨(a2 % 60).toNat, by omega⟩
 obtain ⟨r1, hr1⟩ : ∃ r : Nat, a1 % 1900 = (r : Int):=⟨(a1 % 1900).toNat, by omega⟩
 have o1:=fun W => mod_any a2 60 W (by omega) (by omega) h2.1 h2.2
 have o2:=fun W => mod_any a1 1900 W (by omega) (by omega) h1.1 h1.2
 rw [hk] at o1
 rw [hr1] at o2
 have bk : k < 60:=by omega
 have br : r1 < 1900:=by omega
 have wn : IntKind.i64.wrap (-(r1 : Int)) = -(r1 : Int):=by rw [IntKind.wrap_i64]; omega
 have MO1:=Hd9 o1
 have MO2:=Hd9 o2
 have HB:=Hd9 (And.intro bk br)
 clear o1 o2 hk hr1 bk br
 go_wp2_with fail
 obtain ⟨gx, hgx⟩:=nm9 (w2.heap.size)
 rw [hgx] at L hl9 ⊢
 clear hgx
 have hl_gx:=hl9
 clear hl9
 refine (MO1.out _).mono ?_
 rintro e9 w' ⟨rfl, rfl⟩
 (try go_wp2_with fail)
 refine (MO2.out _).mono ?_
 rintro e9 w' ⟨rfl, rfl⟩
 (try go_wp2_with fail)
 refine (MO2.out _).mono ?_
 rintro e9 w' ⟨rfl, rfl⟩
 obtain ⟨V0, hV0, L9⟩:=L.name
 rw [hV0]
 clear hV0 L
 have L:=L9
 clear L9
 have hgx:=L.b0.lt
 replace L:=L.var V0.heap.size rfl 3 #[.int .i64 (r1 : Int), .int .i64 (-(r1 : Int))] (plainF2 _ _)
 go_wp2_with fail
 obtain ⟨gr, hgr⟩:=nm9 (V0.heap.size)
 rw [hgr] at L hgx ⊢
 clear hgr MO1 MO2 wn
 go_loopw [34] (fun i wr => ∃ t : Nat, i = .int .i64 (t : Int) ∧ t ≤ 2 ∧ Lq w wr [(.slice A (zl m) c, m.natAbs)] [] [] [(gr, 3, #[.int .i64 (r1 : Int), .int .i64 (-(r1 : Int))]), (gx, 28, #[.bool (ng m), .slice A (zl m) c, .int .i64 e, .bool (ng n), .slice B (zl n) d, .int .i64 f])]) (fun i _ => 2 - (intOf i).toNat)
 case atStart => exact ⟨0, rfl, by omega, L.subx (by simp) (by simp)⟩
 case round =>
  clear L
  obtain ⟨t, rfl, ht, L⟩:=hrel
  rcases Nat.eq_or_lt_of_le ht with rfl | ht3
  ·go_wp2_with fail
   go_ret
   exact ⟨rfl, L.below⟩
  ·obtain ⟨r, hr, hrb⟩ : ∃ r : Int, wr.cell? ⟨gr, t, none⟩ = some (.int .i64 r) ∧ (-1899 ≤ r ∧ r ≤ 1899):=by
    have hb:=HB.out.2
    rcases (show t = 0 ∨ t = 1 by omega) with rfl | rfl
    ·exact ⟨(r1 : Int), L.b0.cell 0, by omega⟩
    ·exact ⟨-(r1 : Int), L.b0.cell 1, by omega⟩
   have hlt : (t : Int) < 2:=by omega
   have ht0 : (0 : Int) ≤ (t : Int):=by omega
   have hX:=HX.out
   have z1:=hX.zm
   have b1:=hX.em
   have bk:=HB.out.1
   have g0:=fun v W h => rshift8_any m e r v W h (by omega) (by omega) (by omega)
   obtain ⟨M, hM⟩:=nm9 (mkM m (e + r))
   obtain ⟨E, hE⟩:=nm9 (mkE m (e + r))
   obtain ⟨q1, q2, q3, q4, q5, q6, q7⟩:=far15 hX.pm z1 b1 hX.vm hrb hM hE
   rw [q1, hM, hE] at g0
   have g1:=fun v W h (hW : Below w.heap.size w W) => xln_yes M E M E k v W h (by omega) (by omega) (by omega) (by omega) q2 q2 q3 q7 (by omega) (HT.out W hW)
   have g2:=fun v W h => s15at_any M E k v W h q3 q2 (by omega) (by omega) q6 (by omega)
   have g4:=fun a b a1 b1 vx vl vh W pa pb za zb pl hx hl hh => near15 k a b a1 b1 a1 b1 (dq M E) (dq M E) vx vl vh W (by omega) Rat.le_refl pa pb za zb pl pl hx hl hh
   have HKK:=Hd9 (And.intro q6 (show k ≤ 160 by omega))
   obtain ⟨k16, hk16⟩:=nm9 (k + 16)
   rw [hk16] at g2 g4
   have G0:=Hd9 g0
   have G1:=Hd9 g1
   have G2:=Hd9 g2
   have G4:=Hd9 g4
   have w9 : IntKind.i64.wrap ((t : Int) + 1) = (t : Int) + 1:=by rw [IntKind.wrap_i64]; omega
   have hgx2:=L.tl.b0.lt
   clear g0 g1 g2 g4 hX z1 b1 bk hM hE q1 q2 q3 q4 q5 q6 q7 hrb hk16
   obtain ⟨cel10,cel11,cel12,cel13,cel14,cel15⟩:=L.tl.b0.a6
   go_wp2_with fail
   refine (G0.out _ _ (isD_n (m:=m) (e:=e) (s:=.slice A (zl m) c) (L.getN (by simp)))).mono ?_
   rintro e w41 ⟨v9, rfl, iz, be⟩
   clear cel10 cel11 cel12 cel13 cel14 cel15
   obtain ⟨A1, c1, rfl, _, in9⟩:=iz.form
   replace L:=(L.step be).n in9
   clear be iz in9
   have hl9:=L.b0.lt
   clear hr
   replace L:=L.varD w41.heap.size rfl (ng M) A1 (zl M) c1 E
   obtain ⟨cel00,cel01,cel02⟩:=L.b0.a3
   go_wp2_with fail
   clear cel00 cel01 cel02
   obtain ⟨gd, hgd⟩:=nm9 (w41.heap.size)
   rw [hgd] at L hl9 ⊢
   clear hgd
   have hl_gd:=hl9
   clear hl9
   refine (G1.out _ _ (isI_n (m:=M) (e:=E) (n:=M) (f:=E) (s:=.slice A1 (zl M) c1) (t:=.slice A1 (zl M) c1) (L.getN (by simp)) (L.getN (by simp))) L.below).mono ?_
   intro e9 w42 hr9
   obtain ⟨a, b, hab9, vv, rfl, ii, be⟩:=hr9
   obtain ⟨ea, eb, za, zb⟩:=hab9 HKK.out.2 HKK.out.1 HKK.out.1
   clear hab9
   obtain ⟨A2, c2, B2, d2, rfl, ia, ib⟩:=ii.form
   replace L:=((L.step be).n ib).n ia
   clear be ii ia ib
   have hl9:=L.b0.lt
   have g5:=fun a1 b1 vx vl vh W pl hx hl hh => G4.out a b a1 b1 vx vl vh W ea eb za zb pl hx hl hh
   obtain ⟨Ma, hMa⟩:=nm9 (mkM a (-(k : Int)))
   obtain ⟨Ea, hEa⟩:=nm9 (mkE a (-(k : Int)))
   obtain ⟨Nb, hNb⟩:=nm9 (mkM b (-(k : Int)))
   obtain ⟨Fb, hFb⟩:=nm9 (mkE b (-(k : Int)))
   rw [hMa, hEa, hNb, hFb] at g5
   rw [hMa, hNb] at L ⊢
   rw [hEa, hFb]
   have G5:=Hd9 g5
   clear g5 hMa hEa hNb hFb
   replace L:=L.varI w42.heap.size rfl (ng Ma) A2 (zl Ma) c2 Ea (ng Nb) B2 (zl Nb) d2 Fb
   clear ea eb za zb G4 HKK
   obtain ⟨cel10,cel11,cel12⟩:=L.tl.b0.a3
   go_wp2_with fail
   clear cel10 cel11 cel12
   obtain ⟨gy, hgy⟩:=nm9 (w42.heap.size)
   rw [hgy] at L hl9 ⊢
   clear hgy
   have hl_gy:=hl9
   clear hl9
   refine (G2.out _ _ (isD_n (m:=M) (e:=E) (s:=.slice A1 (zl M) c1) (L.getN (by simp)))).mono ?_
   intro e9 w43 hr9
   obtain ⟨x1, y1, ex1, vv, rfl, ii, be⟩:=hr9.ab
   obtain ⟨A6, c6, B6, d6, rfl, ia, ib⟩:=ii.form
   replace L:=((L.step be).n ib).n ia
   clear be ii ia ib hr9
   have hl9:=L.b0.lt
   have g6:=fun vx vl vh W hx hl hh => G5.out x1 y1 vx vl vh W ex1 hx hl hh
   clear ex1 G5
   obtain ⟨M6, hM6⟩:=nm9 (mkM x1 (-(k16 : Int)))
   obtain ⟨E6, hE6⟩:=nm9 (mkE x1 (-(k16 : Int)))
   obtain ⟨N6, hN6⟩:=nm9 (mkM y1 (-(k16 : Int)))
   obtain ⟨F6, hF6⟩:=nm9 (mkE y1 (-(k16 : Int)))
   rw [hM6, hE6, hN6, hF6] at g6
   rw [hM6, hN6] at L ⊢
   rw [hE6, hF6]
   have G6:=Hd9 g6
   clear g6 hM6 hE6 hN6 hF6
   replace L:=L.varI w43.heap.size rfl (ng M6) A6 (zl M6) c6 E6 (ng N6) B6 (zl N6) d6 F6
   obtain ⟨cel00,cel01,cel02,cel03,cel04,cel05⟩:=L.b0.a6
   obtain ⟨cel10,cel11,cel12,cel13,cel14,cel15⟩:=L.tl.b0.a6
   go_wp2_with fail
   clear cel00 cel01 cel02 cel03 cel04 cel05 cel10 cel11 cel12 cel13 cel14 cel15
   obtain ⟨gt, hgt⟩:=nm9 (w43.heap.size)
   rw [hgt] at L hl9 ⊢
   clear hgt
   have hl_gt:=hl9
   clear hl9
   refine (G6.out _ _ _ _ (isI_n (m:=Ma) (e:=Ea) (n:=Nb) (f:=Fb) (s:=.slice A2 (zl Ma) c2) (t:=.slice B2 (zl Nb) d2) (L.getN (by simp)) (L.getN (by simp))) (isI_n (m:=M6) (e:=E6) (n:=N6) (f:=F6) (s:=.slice A6 (zl M6) c6) (t:=.slice B6 (zl N6) d6) (L.getN (by simp)) (L.getN (by simp))) (isI_n (m:=M6) (e:=E6) (n:=N6) (f:=F6) (s:=.slice A6 (zl M6) c6) (t:=.slice B6 (zl N6) d6) (L.getN (by simp)) (L.getN (by simp)))).mono ?_
   rintro e w44 ⟨rfl, be⟩
   replace L:=L.step be
   clear be
   (try go_wp2_with fail)
   go_roundw
   case rel => exact ⟨t + 1, by go_num, by omega, L.subx (by simp) (by simp)⟩
   case measure => simp [intOf]; omega

end Go.Proofs.YtmgbjldogggpcaaGreatDoor
