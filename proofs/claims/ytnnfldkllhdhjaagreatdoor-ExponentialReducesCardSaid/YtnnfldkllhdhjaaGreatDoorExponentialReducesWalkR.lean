/- The walk of ExponentialReduces: whatever the input, the law returns true and turns nothing that was there. -/
import Derived.Test.YtnnfldkllhdhjaaGreatDoorJR4
import Derived.Test.YtnnfldkllhdhjaaGreatDoorBaseER
import Derived.Test.YtnnfldkllhdhjaaGreatDoorBaseWR
import Derived.Test.YtnnfldkllhdhjaaGreatDoorRefGrBR
import Derived.Deep.RegionHeld3
import Derived.Deep.DrawnRows
import Derived.Deep.LoopGhost
import Derived.Deep.Cut
import Derived.Deep.CutRange
namespace Go.Proofs.YtnnfldkllhdhjaaGreatDoor
open Go.RowKit
set_option linter.unusedVariables false
set_option linter.unusedSimpArgs false
set_option maxRecDepth 100000
attribute [local go_sem ↓] Go.wp_at_zero Go.wp_at_succ

theorem icm_le9 {m e n f m2 e2 n2 f2 : Int} (h2 : dq m e ≤ dq n2 f2) : icm m e n f m2 e2 n2 f2 ≤ 0:=by
 have h3 : dcm m e n2 f2 ≤ 0:=(dcm_le _ _ _ _).2 h2
 unfold icm
 (repeat' split) <;> omega
theorem icm_meet9 {m e n f m2 e2 n2 f2 : Int} (h1 : dq m2 e2 ≤ dq n f) (h2 : dq m e ≤ dq n2 f2) : icm m e n f m2 e2 n2 f2 = 0:=by
 have h3 : dcm m2 e2 n f ≤ 0:=(dcm_le _ _ _ _).2 h1
 have h4 : dcm m e n2 f2 ≤ 0:=(dcm_le _ _ _ _).2 h2
 have h5:=dcm_swap m2 e2 n f
 unfold icm
 (repeat' split) <;> omega

set_option maxHeartbeats 64000000 in
theorem walk_ExponentialReduces (b0 : Bool) (a0 : Option Addr) (len0 cap0 : Nat) (z0 : List Nat) (f0 : Int) (a1 : Int) (w : World) (h0 : Sl w a0 len0 cap0 z0) (u0 : -9223372036854775808 ≤ f0) (t0 : f0 ≤ 9223372036854775807) (h1 : -9223372036854775808 ≤ a1 ∧ a1 ≤ 9223372036854775807) (hT : Tab w) :
  Calls Tryz.prog 8 #[.agg #[.bool b0, .slice a0 len0 cap0, .int .i64 f0], .int .i64 a1] w (fun e w' => e = .returned (.bool true) ∧ Below w.heap.size w w'):=by
 have HT:=Lib.hid (fun W (hW : Below w.heap.size w W) => hT.mono hW)
 clear hT
 go_enter Tryz.func8, Tryz.ntmps8
 go_wp2_with fail
 have L:=((Lq.mk0 w).varD (w.heap.size) (by simp) b0 a0 len0 cap0 f0)
 (try go_wp2_with fail)
 refine (awake14_any _ (HT.out _ L.below)).mono ?_
 rintro e9 w1 ⟨rfl, be⟩
 replace L:=L.step be
 clear be
 have c00:=L.b0.c30
 have c01:=L.b0.c31
 have c02:=L.b0.c32
 (try go_wp2_with fail)
 refine (millD_any b0 z0 2 60 a0 len0 cap0 f0 _ (h0.mono L.below) (by omega) (by omega) u0 t0).mono ?_
 rintro e9 w2 ⟨vx, ok, x, f, rfl, id, zx, hf1, hf2, hdv, be⟩
 clear c00 c01 c02
 obtain ⟨A, c, rfl, _, in9⟩:=id.form
 replace L:=(L.step be).n in9
 clear be id in9
 have hlt0:=L.b0.lt
 replace L:=L.varD w2.heap.size rfl (ng x) A (zl x) c f
 cases ok
 ·go_wp2_with fail
  go_ret
  exact ⟨rfl, L.below⟩
 have HR:=Lib.hid (show ArgD 0 x f from ⟨hdv rfl, by omega, Or.inr (by omega)⟩)
 clear hdv zx hf1 hf2
 obtain ⟨r, hr⟩ : ∃ r : Nat, a1 % 120 = (r : Int):=⟨(a1 % 120).toNat, by omega⟩
 have o1:=fun W => mod_any a1 120 W (by omega) (by omega) h1.1 h1.2
 rw [hr] at o1
 obtain ⟨k, hk⟩ : ∃ k : Nat, 12 + r = k:=⟨_, rfl⟩
 have wk : IntKind.i64.wrap (12 + (r : Int)) = (k : Int):=by rw [IntKind.wrap_i64]; omega
 have HK:=Lib.hid (show 12 ≤ k ∧ k ≤ 131 by omega)
 have MO1:=Lib.hid o1
 clear o1 hr hk
 go_wp2_with fail
 obtain ⟨gx, hgx⟩ : ∃ g9, w2.heap.size = g9:=⟨_, rfl⟩
 rw [hgx] at L hlt0 ⊢
 clear hgx
 go_loopg [] 14 (fun k9 wr => ∃ (j : Nat) (m e : Int) (A6 : Option Addr) (c6 : Nat), j + k9 = 14 ∧ Lq w wr [(.slice A6 (zl m) c6, m.natAbs)] [] [] [(gx, 26, #[.bool (ng m), .slice A6 (zl m) c6, .int .i64 e])] ∧ Hid (ArgD j m e))
 case atStart => exact ⟨0, x, f, A, c, by omega, L.subx (by simp) (by simp), HR⟩
 case round =>
  clear L HR
  obtain ⟨j, m, e, A6, c6, hjk, L, HR⟩:=hrel
  have sm:=HR.out.small (by omega)
  have zm:=HR.out.zm
  have t1:=fun x W h => rtop_any m e x W h (by omega) (by omega)
  have k1:=fun x W h => rshift8_any m e (-20) x W h (by omega) (by omega) (by omega)
  have hmore:=HR.out.more
  obtain ⟨hst0, hst⟩:=HR.out.step (show j ≤ 40 by omega)
  rw [hst0] at k1
  obtain ⟨T1, hT1⟩ : ∃ z, topZ m e = z:=⟨_, rfl⟩
  rw [hT1] at t1 hmore
  obtain ⟨M9, hM9⟩ : ∃ z, mkM m (e + -20) = z:=⟨_, rfl⟩
  rw [hM9] at k1 hst
  obtain ⟨E9, hE9⟩ : ∃ z, mkE m (e + -20) = z:=⟨_, rfl⟩
  rw [hE9] at k1 hst
  have HT1:=Lib.hid t1
  have HK1:=Lib.hid k1
  have HTE:=Lib.hid hT1
  have HST:=Lib.hid hst
  have hl0:=L.b0.lt
  clear t1 k1 hT1 hM9 hE9 hst hst0 sm zm
  rcases Int.lt_or_le 9 T1 with q1 | q1
  ·have hj:=hmore q1
   have d1 : decide (9 < T1) = true:=decide_eq_true q1
   have cel00:=L.b0.c30
   have cel01:=L.b0.c31
   have cel02:=L.b0.c32
   go_wp2_with fail
   refine (HT1.out _ _ (isD_n (m:=m) (e:=e) (s:=.slice A6 (zl m) c6) (L.getN (by simp)))).mono ?_
   rintro e8 w21 ⟨rfl, be⟩
   clear cel00 cel01 cel02
   replace L:=L.step be
   clear be
   have cel00:=L.b0.c30
   have cel01:=L.b0.c31
   have cel02:=L.b0.c32
   (try go_wp2_with fail)
   refine (HK1.out _ _ (isD_n (m:=m) (e:=e) (s:=.slice A6 (zl m) c6) (L.getN (by simp)))).mono ?_
   rintro e8 w22 ⟨vv, rfl, id, be⟩
   clear cel00 cel01 cel02
   obtain ⟨A7, c7, rfl, _, in9⟩:=id.form
   replace L:=(L.step be).n in9
   clear be id in9
   have cel00:=L.b0.c30
   have cel01:=L.b0.c31
   have cel02:=L.b0.c32
   have f00:=L.b0.fr 0
   have f01:=L.b0.fr 1
   have f02:=L.b0.fr 2
   have P:=L.putD (by omega) (by simp) (ng M9) A7 (zl M9) c7 E9
   unfold put3 at P
   go_wp2_with fail
   go_roundg (gk - 1)
   case measure => omega
   case rel => exact ⟨j + 1, M9, E9, A7, c7, by omega, P.subx (by simp) (by simp), HST⟩
  have d1 : decide (9 < T1) = false:=decide_eq_false (by omega)
  have cel00:=L.b0.c30
  have cel01:=L.b0.c31
  have cel02:=L.b0.c32
  go_wp2_with fail
  refine (HT1.out _ _ (isD_n (m:=m) (e:=e) (s:=.slice A6 (zl m) c6) (L.getN (by simp)))).mono ?_
  rintro e8 w21 ⟨rfl, be⟩
  clear cel00 cel01 cel02
  replace L:=L.step be
  clear be
  clear hmore HK1 HST
  obtain ⟨b1, b2⟩:=HK.out
  have ht9 : topZ m e ≤ 9:=by rw [HTE.out]; exact q1
  have hin:=ArgD.in512 (j:=0) ht9
  have sB:=HR.out.smB (by omega) ht9
  have dv:=HR.out.vm
  have sm:=HR.out.small (by omega)
  have zm:=HR.out.zm
  have g1:=fun v W h (hW : Below w.heap.size w W) => xred_yes m e k v W h (by omega) (by omega) dv sB (by omega) (by omega) hin (HT.out W hW)
  have g2:=fun v W h (hW : Below w.heap.size w W) => xred_w m e 11 v W h (by omega) (by omega) dv (by decide) (HT.out W hW)
  have g3:=fun W => rof8_any 1001 W (by omega) (by omega)
  obtain ⟨c1, c2, c3, c4, c5⟩:=n1001
  have g4:=fun v W h (hW : Below w.heap.size w W) => xred_far (mkM 1001 0) (mkE 1001 0) k v W h (by omega) (by omega) c4 s1001 (by omega) (by omega) far1001 (HT.out W hW)
  clear c1 c2 c3 c4 c5
  generalize mkM 1001 0 = Mk at *
  generalize mkE 1001 0 = Ek at *
  obtain ⟨v, hv⟩ : ∃ v : Nat, k + 40 = v:=⟨_, rfl⟩
  obtain ⟨p, hp⟩ : ∃ p : Nat, k + 20 = p:=⟨_, rfl⟩
  obtain ⟨q, hq⟩ : ∃ q : Nat, k - 2 = q:=⟨_, rfl⟩
  have wv : IntKind.i64.wrap ((k : Int) + 40) = (v : Int):=by rw [IntKind.wrap_i64]; omega
  have wp : IntKind.i64.wrap ((k : Int) + 20) = (p : Int):=by rw [IntKind.wrap_i64]; omega
  have wq : IntKind.i64.wrap ((k : Int) - 2) = (q : Int):=by rw [IntKind.wrap_i64]; omega
  have g5:=fun u W h => s13at_any m e v u W h (by omega) (by omega) (by omega)
  have HSZ:=Lib.hid (fun (N : Int) (hN : -750 ≤ N ∧ N ≤ 750) => red_zl (m:=m) (e:=e) (v:=v) zm sm (by omega) hN)
  have HS1:=Lib.hid (fun (N : Int) (hN : 0 ≤ N) => red_sp1 (v:=v) (by omega) (dq m e) hN)
  have HS2:=Lib.hid (fun (N M : Int) (hM : 0 ≤ M) (hN : -N = M) => red_sp2 (v:=v) (by omega) (dq m e) hM hN)
  obtain ⟨aX, haX⟩ : ∃ z, cutQ (dq m e) (v : Int) = z:=⟨_, rfl⟩
  obtain ⟨bX, hbX⟩ : ∃ z, -(cutQ (-(dq m e)) (v : Int)) = z:=⟨_, rfl⟩
  rw [haX, hbX] at g5 HSZ HS1 HS2
  have g6:=fun W => s13ln_any v W (by omega)
  obtain ⟨al, hal⟩ : ∃ z, lnL v = z:=⟨_, rfl⟩
  obtain ⟨bl, hbl⟩ : ∃ z, lnH v = z:=⟨_, rfl⟩
  rw [hal, hbl] at g6 HSZ HS1 HS2
  have G1:=Lib.hid g1
  have G2:=Lib.hid g2
  have G3:=Lib.hid g3
  have G4:=Lib.hid g4
  have G5:=Lib.hid g5
  have G6:=Lib.hid g6
  have HV:=Lib.hid (And.intro hv (And.intro hp hq))
  clear g1 g2 g3 g4 g5 g6 haX hbX hal hbl ht9 hin sB dv sm zm hv hp hq HTE HR b1 b2
  (try go_wp2_with fail)
  clear d1 q1
  refine (MO1.out _).mono ?_
  rintro e9 w' ⟨rfl, rfl⟩
  have c00:=L.b0.c30
  have c01:=L.b0.c31
  have c02:=L.b0.c32
  (try go_wp2_with fail)
  refine (G1.out _ _ (isD_n (m:=m) (e:=e) (s:=.slice A6 (zl m) c6) (L.getN (by simp))) L.below).mono ?_
  rintro e9 w31 ⟨N, R1, R2, hR, v9, rfl, ii, be⟩
  clear c00 c01 c02
  obtain ⟨A1, c1, B1, d1, rfl, ia, ib⟩:=ii.form
  replace L:=((L.step be).n ib).n ia
  clear be ii ia ib
  have hl9:=L.b0.lt
  obtain ⟨b1, b2⟩:=HK.out
  obtain ⟨hv, hp, hq⟩:=HV.out
  obtain ⟨⟨n1, n2⟩, rr, wd, rlo, rhi, rl5, rh5, ra1, ra2⟩:=hR
  obtain ⟨x1, x2, x3, x4, x5⟩:=np ra1 (by omega) (show k ≤ 3000 by omega)
  obtain ⟨y1, y2, y3, y4, y5⟩:=np ra2 (by omega) (show k ≤ 3000 by omega)
  obtain ⟨Mr, hMr⟩ : ∃ z, mkM R1 (-(k : Int)) = z:=⟨_, rfl⟩
  obtain ⟨Er, hEr⟩ : ∃ z, mkE R1 (-(k : Int)) = z:=⟨_, rfl⟩
  obtain ⟨Ms, hMs⟩ : ∃ z, mkM R2 (-(k : Int)) = z:=⟨_, rfl⟩
  obtain ⟨Es, hEs⟩ : ∃ z, mkE R2 (-(k : Int)) = z:=⟨_, rfl⟩
  rw [hMr, hMs] at L ⊢
  rw [hEr, hEs]
  rw [hMr] at x2
  rw [hEr] at x3
  rw [hMr, hEr] at x4 x5
  rw [hMs] at y2
  rw [hEs] at y3
  rw [hMs, hEs] at y4 y5
  have hpk : permB (k : Int) = true:=by
   unfold permB
   rw [decide_eq_true (show (-2048 : Int) ≤ (k : Int) by omega), decide_eq_true (show (k : Int) ≤ 8192 by omega)]
   rfl
  have hpq : permB (q : Int) = true:=by
   unfold permB
   rw [decide_eq_true (show (-2048 : Int) ≤ (q : Int) by omega), decide_eq_true (show (q : Int) ≤ 8192 by omega)]
   rfl
  have hp1 : permB 1 = true:=by decide
  have i1 : ∀ v W, IsI W v Mr Er Ms Es → Calls Tryz.prog 36 #[v] W (RetB W true):=fun v W h => by
   have s:=r10valid_any _ _ _ _ v W h (by omega) (by omega) (by omega) (by omega) x4 y4
   rwa [decide_eq_true (show dcm Mr Er Ms Es ≤ 0 from (dcm_le _ _ _ _).2 (by rw [x5, y5]; exact (dq_le_iff _ _ _).2 rr))] at s
  have i2 : ∀ v W, IsD W v Mr Er → Calls Tryz.prog 37 #[v, .int .i64 (k : Int)] W (RetB W true):=fun v W h => by
   have s:=ron9_any _ _ (k : Int) v W h (by omega) (by omega)
   unfold onB at s
   rwa [hpk, decide_eq_true x3.1, Bool.or_true, Bool.and_true] at s
  have i3 : ∀ v W, IsD W v Ms Es → Calls Tryz.prog 37 #[v, .int .i64 (k : Int)] W (RetB W true):=fun v W h => by
   have s:=ron9_any _ _ (k : Int) v W h (by omega) (by omega)
   unfold onB at s
   rwa [hpk, decide_eq_true y3.1, Bool.or_true, Bool.and_true] at s
  obtain ⟨o1, o2, o3⟩:=mk_one14 1 (by omega)
  rw [show -((1 : Nat) : Int) = -1 from rfl] at o1 o2 o3
  obtain ⟨u1, u2, u3⟩:=g_yes hp1 1
  rw [o1] at u1
  rw [o2] at u2
  rw [o3] at u3
  have i4:=fun W => runit9_any 1 W (by omega) (by omega)
  rw [u1, u2, u3] at i4
  obtain ⟨t1, t2, t3⟩:=g_yes hpq 1
  obtain ⟨s1, s2, s3, s4, s5⟩:=np (T:=1) (j:=0) (p:=q) (by unfold AbP; decide) (by omega) (by omega)
  rw [s1] at t3
  have i5:=fun W => runit9_any (q : Int) W (by omega) (by omega)
  rw [t1, t2, t3] at i5
  obtain ⟨Mf, hMf⟩ : ∃ z, mkM 1 (-(q : Int)) = z:=⟨_, rfl⟩
  obtain ⟨Ef, hEf⟩ : ∃ z, mkE 1 (-(q : Int)) = z:=⟨_, rfl⟩
  rw [hMf, hEf] at i5 s5
  rw [hMf] at s2
  rw [hEf] at s3
  obtain ⟨q1, q2, q3, q4⟩:=big_add (m:=Ms) (e:=Es) (n := -Mr) (k:=Er) (s:=R2) (t := -R1) (j:=k) y3.1 x3.1 y5 (by rw [dq_neg, x5, dq_neg]) ((ra2.add ra1.neg).up (by omega)) (by omega) (by omega)
  have i6:=fun v W h => r10width_any Mr Er Ms Es v W h (by omega) (by omega) (by omega) (by omega)
  rw [q1] at i6
  obtain ⟨Mw, hMw⟩ : ∃ z, mkM (addS Ms Es (-Mr) Er) (min Es Er) = z:=⟨_, rfl⟩
  obtain ⟨Ew, hEw⟩ : ∃ z, mkE (addS Ms Es (-Mr) Er) (min Es Er) = z:=⟨_, rfl⟩
  rw [hMw, hEw] at i6 q2
  rw [hMw] at q3
  rw [hEw] at q4
  have i7:=fun v u W h h9 => rcmp8_any Mw Ew Mf Ef v u W h h9 (by omega) (by omega) (by omega) (by omega)
  have hcm : dcm Mw Ew Mf Ef ≤ 0:=(dcm_le _ _ _ _).2 (by
   rw [q2, s5]
   have e4 : dq 1 (-(q : Int)) = dq 4 (-(k : Int)):=by
    refine dq_eq (F := -(k : Int)) ?_ (by omega) (by omega)
    rw [show (-(q : Int) - -(k : Int)).toNat = 2 by omega, show (-(k : Int) - -(k : Int)).toNat = 0 by omega]
    decide
   rw [e4]
   exact (dq_le_iff _ _ _).2 (by omega))
  rw [show cmpI (Mw * 2 ^ (Ew - min Ew Ef).toNat) (Mf * 2 ^ (Ef - min Ew Ef).toNat) = dcm Mw Ew Mf Ef from rfl] at i7
  generalize dcm Mw Ew Mf Ef = cm at *
  have z11 : zl 1 ≤ 1:=len_le1 (show 1 < 4294967296 by omega)
  have z12 : zl (-1) ≤ 1:=len_le1 (show (-1 : Int).natAbs < 4294967296 by decide)
  have i8:=fun v W h => rneg8_any 1 (-1) v W h (by omega)
  have i9 : ∀ v u W, IsI W v Mr Er Ms Es → IsI W u (-1) (-1) 1 (-1) → Calls Tryz.prog 40 #[v, u] W (RetB W true):=fun v u W h h9 => by
   have s:=r10within_any _ _ _ _ _ _ _ _ v u W h h9 (by omega) (by omega) (by omega) (by omega) (by omega) (by omega) (by omega) (by omega)
   have e1 : dq (-1) (-1) = -(1 / 2):=by decide +kernel
   have e2 : dq 1 (-1) = 1 / 2:=by decide +kernel
   rwa [(inB_iff _ _ _ _ _ _ _ _).2 ⟨by rw [e1, x5]; exact rl5, by rw [e2, y5]; exact rh5⟩] at s
  have e3 : decide (N < -2000) = false:=decide_eq_false (by omega)
  have e4 : decide (2000 < N) = false:=decide_eq_false (by omega)
  have e5 : decide (0 < cm) = false:=decide_eq_false (by omega)
  have I1:=Lib.hid i1
  have I2:=Lib.hid i2
  have I3:=Lib.hid i3
  have I4:=Lib.hid i4
  have I5:=Lib.hid i5
  have I6:=Lib.hid i6
  have I7:=Lib.hid i7
  have I8:=Lib.hid i8
  have I9:=Lib.hid i9
  have HN:=Lib.hid (And.intro n1 n2)
  have HX:=Lib.hid (And.intro x2 (And.intro x3 x5))
  have HY:=Lib.hid (And.intro y2 (And.intro y3 y5))
  have HL:=Lib.hid (And.intro rlo rhi)
  clear i1 i2 i3 i4 i5 i6 i7 i8 i9 n1 n2 rr wd rlo rhi rl5 rh5 ra1 ra2 x1 x2 x3 x4 x5 y1 y2 y3 y4 y5 hMr hEr hMs hEs hpk hpq hp1 o1 o2 o3 u1 u2 u3 t1 t2 t3 s1 s2 s3 s4 s5 hMf hEf q1 q2 q3 q4 hMw hEw hcm z11 z12 b1 b2 hv hp hq
  replace L:=L.varI w31.heap.size rfl (ng Mr) A1 (zl Mr) c1 Er (ng Ms) B1 (zl Ms) d1 Es
  have c00:=L.b0.c60
  have c01:=L.b0.c61
  have c02:=L.b0.c62
  have c03:=L.b0.c63
  have c04:=L.b0.c64
  have c05:=L.b0.c65
  go_wp2_with fail
  clear c00 c01 c02 c03 c04 c05
  obtain ⟨gr, hgr⟩ : ∃ g9, w31.heap.size = g9:=⟨_, rfl⟩
  rw [hgr] at L hl9 ⊢
  clear hgr
  have hl_gr:=hl9
  clear hl9
  refine (I1.out _ _ (isI_n (m:=Mr) (e:=Er) (n:=Ms) (f:=Es) (s:=.slice A1 (zl Mr) c1) (t:=.slice B1 (zl Ms) d1) (L.getN (by simp)) (L.getN (by simp)))).mono ?_
  rintro e w32 ⟨rfl, be⟩
  replace L:=L.step be
  clear be
  have c00:=L.b0.c60
  have c01:=L.b0.c61
  have c02:=L.b0.c62
  have c03:=L.b0.c63
  have c04:=L.b0.c64
  have c05:=L.b0.c65
  (try go_wp2_with fail)
  refine (I2.out _ _ (isD_n (m:=Mr) (e:=Er) (s:=.slice A1 (zl Mr) c1) (L.getN (by simp)))).mono ?_
  rintro e w33 ⟨rfl, be⟩
  clear c00 c01 c02 c03 c04 c05
  replace L:=L.step be
  clear be
  have c00:=L.b0.c60
  have c01:=L.b0.c61
  have c02:=L.b0.c62
  have c03:=L.b0.c63
  have c04:=L.b0.c64
  have c05:=L.b0.c65
  (try go_wp2_with fail)
  refine (I3.out _ _ (isD_n (m:=Ms) (e:=Es) (s:=.slice B1 (zl Ms) d1) (L.getN (by simp)))).mono ?_
  rintro e w34 ⟨rfl, be⟩
  clear c00 c01 c02 c03 c04 c05
  replace L:=L.step be
  clear be
  (try go_wp2_with fail)
  clear e3 e4
  refine (I4.out _).mono ?_
  rintro e w35 ⟨v9, rfl, iz, be⟩
  obtain ⟨A2, c2, rfl, _, in9⟩:=iz.form
  replace L:=(L.step be).n in9
  clear be iz in9
  have hl9:=L.b0.lt
  replace L:=L.varD w35.heap.size rfl (ng 1) A2 (zl 1) c2 (-1)
  have c00:=L.b0.c30
  have c01:=L.b0.c31
  have c02:=L.b0.c32
  go_wp2_with fail
  clear c00 c01 c02
  obtain ⟨gh, hgh⟩ : ∃ g9, w35.heap.size = g9:=⟨_, rfl⟩
  rw [hgh] at L hl9 ⊢
  clear hgh
  have hl_gh:=hl9
  clear hl9
  refine (I5.out _).mono ?_
  rintro e w36 ⟨v9, rfl, iz, be⟩
  obtain ⟨A3, c3, rfl, _, in9⟩:=iz.form
  replace L:=(L.step be).n in9
  clear be iz in9
  have hl9:=L.b0.lt
  replace L:=L.varD w36.heap.size rfl (ng Mf) A3 (zl Mf) c3 Ef
  have c00:=L.b0.c30
  have c01:=L.b0.c31
  have c02:=L.b0.c32
  have c20:=L.tl.tl.b0.c60
  have c21:=L.tl.tl.b0.c61
  have c22:=L.tl.tl.b0.c62
  have c23:=L.tl.tl.b0.c63
  have c24:=L.tl.tl.b0.c64
  have c25:=L.tl.tl.b0.c65
  go_wp2_with fail
  clear c00 c01 c02 c20 c21 c22 c23 c24 c25
  obtain ⟨gf, hgf⟩ : ∃ g9, w36.heap.size = g9:=⟨_, rfl⟩
  rw [hgf] at L hl9 ⊢
  clear hgf
  have hl_gf:=hl9
  clear hl9
  refine (I6.out _ _ (isI_n (m:=Mr) (e:=Er) (n:=Ms) (f:=Es) (s:=.slice A1 (zl Mr) c1) (t:=.slice B1 (zl Ms) d1) (L.getN (by simp)) (L.getN (by simp)))).mono ?_
  rintro e w37 ⟨v9, rfl, iz, be⟩
  obtain ⟨A4, c4, rfl, _, in9⟩:=iz.form
  replace L:=(L.step be).n in9
  clear be iz in9
  have hl9:=L.b0.lt
  replace L:=L.varD w37.heap.size rfl (ng Mw) A4 (zl Mw) c4 Ew
  have c00:=L.b0.c30
  have c01:=L.b0.c31
  have c02:=L.b0.c32
  go_wp2_with fail
  clear c00 c01 c02
  obtain ⟨gw, hgw⟩ : ∃ g9, w37.heap.size = g9:=⟨_, rfl⟩
  rw [hgw] at L hl9 ⊢
  clear hgw
  have hl_gw:=hl9
  clear hl9
  replace L:=L.drew
  have c00:=L.b0.c30
  have c01:=L.b0.c31
  have c02:=L.b0.c32
  have c10:=L.tl.b0.c30
  have c11:=L.tl.b0.c31
  have c12:=L.tl.b0.c32
  have c20:=L.tl.tl.b0.c30
  have c21:=L.tl.tl.b0.c31
  have c22:=L.tl.tl.b0.c32
  have c30:=L.tl.tl.tl.b0.c60
  have c31:=L.tl.tl.tl.b0.c61
  have c32:=L.tl.tl.tl.b0.c62
  have c33:=L.tl.tl.tl.b0.c63
  have c34:=L.tl.tl.tl.b0.c64
  have c35:=L.tl.tl.tl.b0.c65
  go_region_held3 (fun w' => w'.cell? ⟨gw, 0, none⟩ = some (.bool (ng Mw)) ∧ w'.cell? ⟨gw, 1, none⟩ = some (.slice A4 (zl Mw) c4) ∧ w'.cell? ⟨gw, 2, none⟩ = some (.int .i64 Ew) ∧ w'.cell? ⟨gf, 0, none⟩ = some (.bool (ng Mf)) ∧ w'.cell? ⟨gf, 1, none⟩ = some (.slice A3 (zl Mf) c3) ∧ w'.cell? ⟨gf, 2, none⟩ = some (.int .i64 Ef) ∧ w'.cell? ⟨gh, 0, none⟩ = some (.bool (ng 1)) ∧ w'.cell? ⟨gh, 1, none⟩ = some (.slice A2 (zl 1) c2) ∧ w'.cell? ⟨gh, 2, none⟩ = some (.int .i64 (-1)) ∧ w'.cell? ⟨gr, 0, none⟩ = some (.bool (ng Mr)) ∧ w'.cell? ⟨gr, 1, none⟩ = some (.slice A1 (zl Mr) c1) ∧ w'.cell? ⟨gr, 2, none⟩ = some (.int .i64 Er) ∧ w'.cell? ⟨gr, 3, none⟩ = some (.bool (ng Ms)) ∧ w'.cell? ⟨gr, 4, none⟩ = some (.slice B1 (zl Ms) d1) ∧ w'.cell? ⟨gr, 5, none⟩ = some (.int .i64 Es)) (first | (with_reducible exact ⟨L.b0.c30, L.b0.c31, L.b0.c32, L.tl.b0.c30, L.tl.b0.c31, L.tl.b0.c32, L.tl.tl.b0.c30, L.tl.tl.b0.c31, L.tl.tl.b0.c32, L.tl.tl.tl.b0.c60, L.tl.tl.tl.b0.c61, L.tl.tl.tl.b0.c62, L.tl.tl.tl.b0.c63, L.tl.tl.tl.b0.c64, L.tl.tl.tl.b0.c65⟩) | exact ⟨L.b0.c30, L.b0.c31, L.b0.c32, L.tl.b0.c30, L.tl.b0.c31, L.tl.b0.c32, L.tl.tl.b0.c30, L.tl.tl.b0.c31, L.tl.tl.b0.c32, L.tl.tl.tl.b0.c60, L.tl.tl.tl.b0.c61, L.tl.tl.tl.b0.c62, L.tl.tl.tl.b0.c63, L.tl.tl.tl.b0.c64, L.tl.tl.tl.b0.c65⟩) (first | (go_at_call 30; (with_reducible refine (I7.out _ _ _ ?_ ?_).mono ?_); (· (refine isD_n (L.getN ?_); (repeat (first | (with_reducible exact List.mem_cons_self) | apply List.mem_cons_of_mem)))); (· (refine isD_n (L.getN ?_); (repeat (first | (with_reducible exact List.mem_cons_self) | apply List.mem_cons_of_mem)))); rintro e wh ⟨rfl, be⟩; replace L:=L.step be; clear be) | (go_at_call 41; (with_reducible refine (I8.out _ _ ?_).mono ?_); (· (refine isD_n (L.getN ?_); (repeat (first | (with_reducible exact List.mem_cons_self) | apply List.mem_cons_of_mem)))); rintro e wh ⟨vh, rfl, id, be⟩; obtain ⟨A5, c5, rfl, _, in9⟩:=id.form; replace L:=(L.step be).n in9; clear be id in9) | (go_at_call 40; (with_reducible refine (I9.out _ _ _ ?_ ?_).mono ?_); (· (refine isI_n (L.getN ?_) (L.getN ?_); all_goals (repeat (first | (with_reducible exact List.mem_cons_self) | apply List.mem_cons_of_mem)))); (· (refine isI_n (L.getN ?_) (L.getN ?_); all_goals (repeat (first | (with_reducible exact List.mem_cons_self) | apply List.mem_cons_of_mem)))); rintro e wh ⟨rfl, be⟩; replace L:=L.step be; clear be))
  clear c00 c01 c02 c10 c11 c12 c20 c21 c22 c30 c31 c32 c33 c34 c35
  have L9:=L.subx (ns':=[(.slice A1 (zl Mr) c1, Mr.natAbs), (.slice B1 (zl Ms) d1, Ms.natAbs), (.slice A6 (zl m) c6, m.natAbs)]) (bs':=[(gr, 28, #[.bool (ng Mr), .slice A1 (zl Mr) c1, .int .i64 Er, .bool (ng Ms), .slice B1 (zl Ms) d1, .int .i64 Es]), (gx, 26, #[.bool (ng m), .slice A6 (zl m) c6, .int .i64 e])]) (by simp) (by simp)
  clear L
  have L:=L9
  clear L9 e5
  have c10:=L.tl.b0.c30
  have c11:=L.tl.b0.c31
  have c12:=L.tl.b0.c32
  (try go_wp2_with fail)
  refine (G5.out _ _ (isD_n (m:=m) (e:=e) (s:=.slice A6 (zl m) c6) (L.getN (by simp)))).mono ?_
  rintro e w38 ⟨v9, rfl, iq, be⟩
  clear c10 c11 c12
  obtain ⟨As, cs, Bs, ds, rfl, ia, ib⟩:=iq.form
  replace L:=((L.step be).n ib).n ia
  clear be iq ia ib
  have hl9:=L.b0.lt
  replace L:=L.varS w38.heap.size rfl (ng aX) As (zl aX) cs (ng bX) Bs (zl bX) ds
  obtain ⟨hn1, hn2⟩:=HN.out
  obtain ⟨⟨z1, z2⟩, ⟨z3, z4⟩, z5, z6⟩:=HSZ.out N HN.out
  rcases Int.lt_or_le N 0 with hn | hn
  ·have e6 : decide (0 ≤ N) = false:=decide_eq_false (by omega)
   obtain ⟨M, hM⟩ : ∃ z, -N = z:=⟨_, rfl⟩
   have wn : IntKind.i64.wrap (-N) = M:=by rw [IntKind.wrap_i64]; omega
   obtain ⟨_, _, z5, z6⟩:=HSZ.out M (by omega)
   have hsp:=HS2.out N M (by omega) hM
   obtain ⟨ca, hca⟩ : ∃ z, al * M = z:=⟨_, rfl⟩
   obtain ⟨cb, hcb⟩ : ∃ z, bl * M = z:=⟨_, rfl⟩
   have g7:=fun u W h => s13times_any al bl M u W h (by omega) (by omega) (by omega) (by omega)
   rw [hca, hcb] at g7 hsp
   rw [hca] at z5
   rw [hcb] at z6
   have g8:=fun u t W h h9 => s13add_any aX bX ca cb u t W h h9 (by omega) (by omega) (by omega) (by omega)
   have z9:=zl_add aX ca
   have z10:=zl_add bX cb
   obtain ⟨sa, hsa⟩ : ∃ z, aX + ca = z:=⟨_, rfl⟩
   obtain ⟨sb, hsb⟩ : ∃ z, bX + cb = z:=⟨_, rfl⟩
   rw [hsa, hsb] at g8 hsp
   rw [hsa] at z9
   rw [hsb] at z10
   obtain ⟨hv, hp, hq⟩:=HV.out
   obtain ⟨b1, b2⟩:=HK.out
   have g9:=fun u W h => s13out_any sa sb v p 20 u W h (by omega) (by omega) (by omega) (by omega) (by omega)
   obtain ⟨l1, l2⟩:=hsp.out9 (k:=p) (j:=20) (by omega)
   have y1:=zl_shr sa 20
   have y2:=zl_cdv sb (n:=2 ^ 20) (by decide)
   obtain ⟨_, r1, r2, r3⟩:=npZ (T:=sa / 2 ^ 20) (j:=p) (by omega) (by omega)
   obtain ⟨_, r4, r5, r6⟩:=npZ (T:=cdv sb (2 ^ 20)) (j:=p) (by omega) (by omega)
   obtain ⟨Mo, hMo⟩ : ∃ z, mkM (sa / 2 ^ 20) (-(p : Int)) = z:=⟨_, rfl⟩
   obtain ⟨Eo, hEo⟩ : ∃ z, mkE (sa / 2 ^ 20) (-(p : Int)) = z:=⟨_, rfl⟩
   obtain ⟨No, hNo⟩ : ∃ z, mkM (cdv sb (2 ^ 20)) (-(p : Int)) = z:=⟨_, rfl⟩
   obtain ⟨Fo, hFo⟩ : ∃ z, mkE (cdv sb (2 ^ 20)) (-(p : Int)) = z:=⟨_, rfl⟩
   rw [hMo, hEo, hNo, hFo] at g9
   rw [hMo] at r1
   rw [hEo] at r2
   rw [hMo, hEo] at r3
   rw [hNo] at r4
   rw [hFo] at r5
   rw [hNo, hFo] at r6
   obtain ⟨x2, x3, x5⟩:=HX.out
   obtain ⟨y7, y8, y9⟩:=HY.out
   obtain ⟨rlo, rhi⟩:=HL.out
   have g10 : ∀ t u W, IsI W t Mr Er Ms Es → IsI W u Mo Eo No Fo → Calls Tryz.prog 47 #[t, u] W (RetB W true):=fun t u W h h9 => by
    have s:=s13touches_any _ _ _ _ _ _ _ _ t u W h h9 (by omega) (by omega) (by omega) (by omega) (by omega) (by omega) (by omega) (by omega)
    rwa [icm_meet9 (by rw [r3, y9]; exact Rat.le_trans l1 rhi) (by rw [x5, r6]; exact Rat.le_trans rlo l2)] at s
   have G7:=Lib.hid g7
   have G8:=Lib.hid g8
   have G9:=Lib.hid g9
   have G10:=Lib.hid g10
   clear g7 g8 g9 g10 hsp hca hcb z1 z2 z3 z4 z5 z6 z9 z10 hsa hsb hv hp hq b1 b2 l1 l2 y1 y2 r1 r2 r3 r4 r5 r6 hMo hEo hNo hFo x2 x3 x5 y7 y8 y9 rlo rhi hn hM hn1 hn2
   have c00:=L.b0.c40
   have c01:=L.b0.c41
   have c02:=L.b0.c42
   have c03:=L.b0.c43
   go_wp2_with fail
   clear c00 c01 c02 c03
   obtain ⟨gs, hgs⟩ : ∃ g9, w38.heap.size = g9:=⟨_, rfl⟩
   rw [hgs] at L hl9 ⊢
   clear hgs
   have hl_gs:=hl9
   clear hl9
   replace L:=L.drew
   have ns1 : gs ≠ gr:=by omega
   have ns2 : gs ≠ gx:=by omega
   have c00:=L.b0.c40
   have f00:=L.b0.fr 0
   have c01:=L.b0.c41
   have f01:=L.b0.fr 1
   have c02:=L.b0.c42
   have f02:=L.b0.fr 2
   have c03:=L.b0.c43
   have f03:=L.b0.fr 3
   go_cut [] from 125 to 132 (fun wx => ∃ (A9 B9 : Option Addr) (c9 d9 : Nat), Lq w wx [(.slice A9 (zl sa) c9, sa.natAbs), (.slice B9 (zl sb) d9, sb.natAbs), (.slice A1 (zl Mr) c1, Mr.natAbs), (.slice B1 (zl Ms) d1, Ms.natAbs), (.slice A6 (zl m) c6, m.natAbs)] [] [] [(gs, 71, #[.bool (ng sa), .slice A9 (zl sa) c9, .bool (ng sb), .slice B9 (zl sb) d9]), (gr, 28, #[.bool (ng Mr), .slice A1 (zl Mr) c1, .int .i64 Er, .bool (ng Ms), .slice B1 (zl Ms) d1, .int .i64 Es]), (gx, 26, #[.bool (ng m), .slice A6 (zl m) c6, .int .i64 e])])
   case first =>
    go_region_with (first | (go_at_call 45; (with_reducible refine (G6.out _).mono ?_); rintro e9 wh ⟨vh, rfl, iq, be⟩; obtain ⟨A7, c7, B7, d7, rfl, ia, ib⟩:=iq.form; replace L:=((L.step be).n ib).n ia; clear be iq ia ib; (try (have xx00:=L.b0.c40; have yy00:=L.b0.fr 0; have xx01:=L.b0.c41; have yy01:=L.b0.fr 1; have xx02:=L.b0.c42; have yy02:=L.b0.fr 2; have xx03:=L.b0.c43; have yy03:=L.b0.fr 3))) | (go_at_call 44; (with_reducible refine (G7.out _ _ ?_).mono ?_); (· (refine isS_n (L.getN ?_) (L.getN ?_); all_goals (repeat (first | (with_reducible exact List.mem_cons_self) | apply List.mem_cons_of_mem)))); rintro e9 wh ⟨vh, rfl, iq, be⟩; obtain ⟨A8, c8, B8, d8, rfl, ia, ib⟩:=iq.form; replace L:=((L.step be).n ib).n ia; clear be iq ia ib; (try (have xx00:=L.b0.c40; have yy00:=L.b0.fr 0; have xx01:=L.b0.c41; have yy01:=L.b0.fr 1; have xx02:=L.b0.c42; have yy02:=L.b0.fr 2; have xx03:=L.b0.c43; have yy03:=L.b0.fr 3))) | (go_at_call 46; (with_reducible refine (G8.out _ _ _ ?_ ?_).mono ?_); (· (refine isS_n (L.getN ?_) (L.getN ?_); all_goals (repeat (first | (with_reducible exact List.mem_cons_self) | apply List.mem_cons_of_mem)))); (· (refine isS_n (L.getN ?_) (L.getN ?_); all_goals (repeat (first | (with_reducible exact List.mem_cons_self) | apply List.mem_cons_of_mem)))); rintro e9 wh ⟨vh, rfl, iq, be⟩; obtain ⟨A9, c9, B9, d9, rfl, ia, ib⟩:=iq.form; replace L:=((L.step be).n ib).n ia; clear be iq ia ib; (try (have xx00:=L.b0.c40; have yy00:=L.b0.fr 0; have xx01:=L.b0.c41; have yy01:=L.b0.fr 1; have xx02:=L.b0.c42; have yy02:=L.b0.fr 2; have xx03:=L.b0.c43; have yy03:=L.b0.fr 3))))
    all_goals
     have P:=L.putS (by omega) (by simp [ns1, ns2, Ne.symm ns1, Ne.symm ns2]) (ng sa) A9 (zl sa) c9 (ng sb) B9 (zl sb) d9
     unfold put4 at P
     go_wp2_with fail
     go_meet
     exact ⟨A9, B9, c9, d9, P.subx (by simp) (by simp)⟩
   case rest =>
    clear L
    obtain ⟨A9, B9, c9, d9, L⟩:=hcut
    have c20:=L.tl.tl.b0.c30
    have c21:=L.tl.tl.b0.c31
    have c22:=L.tl.tl.b0.c32
    (try go_wp2_with fail)
    refine (G2.out _ _ (isD_n (m:=m) (e:=e) (s:=.slice A6 (zl m) c6) (L.getN (by simp))) L.below).mono ?_
    rintro e w44 ⟨v9, rfl, ii, be⟩
    clear c20 c21 c22
    obtain ⟨Au, cu, Bu, du, rfl, ia, ib⟩:=ii.form
    replace L:=((L.step be).n ib).n ia
    clear be ii ia ib
    have hl9:=L.b0.lt
    replace L:=L.varI w44.heap.size rfl (ng 0) Au (zl 0) cu 0 (ng 0) Bu (zl 0) du 0
    have c00:=L.b0.c60
    have c01:=L.b0.c61
    have c02:=L.b0.c62
    have c03:=L.b0.c63
    have c04:=L.b0.c64
    have c05:=L.b0.c65
    go_wp2_with fail
    clear c00 c01 c02 c03 c04 c05
    obtain ⟨gu, hgu⟩ : ∃ g9, w44.heap.size = g9:=⟨_, rfl⟩
    rw [hgu] at L hl9 ⊢
    clear hgu
    have hl_gu:=hl9
    clear hl9
    refine (G3.out _).mono ?_
    rintro e w45 ⟨v9, rfl, iz, be⟩
    obtain ⟨Ak, ck, rfl, _, in9⟩:=iz.form
    replace L:=(L.step be).n in9
    clear be iz in9
    (try go_wp2_with fail)
    refine (G4.out _ _ (isD_n (m:=Mk) (e:=Ek) (s:=.slice Ak (zl Mk) ck) (L.getN (by simp))) L.below).mono ?_
    rintro e w46 ⟨v9, rfl, ii, be⟩
    obtain ⟨Ay, cy, By, dy, rfl, ia, ib⟩:=ii.form
    replace L:=((L.step be).n ib).n ia
    clear be ii ia ib
    have hl9:=L.b0.lt
    replace L:=L.varI w46.heap.size rfl (ng 0) Ay (zl 0) cy 0 (ng 0) By (zl 0) dy 0
    have c00:=L.b0.c60
    have c01:=L.b0.c61
    have c02:=L.b0.c62
    have c03:=L.b0.c63
    have c04:=L.b0.c64
    have c05:=L.b0.c65
    go_wp2_with fail
    clear c00 c01 c02 c03 c04 c05
    obtain ⟨gy, hgy⟩ : ∃ g9, w46.heap.size = g9:=⟨_, rfl⟩
    rw [hgy] at L hl9 ⊢
    clear hgy
    have hl_gy:=hl9
    clear hl9
    replace L:=L.drew
    have c20:=L.tl.tl.b0.c40
    have c21:=L.tl.tl.b0.c41
    have c22:=L.tl.tl.b0.c42
    have c23:=L.tl.tl.b0.c43
    have c30:=L.tl.tl.tl.b0.c60
    have c31:=L.tl.tl.tl.b0.c61
    have c32:=L.tl.tl.tl.b0.c62
    have c33:=L.tl.tl.tl.b0.c63
    have c34:=L.tl.tl.tl.b0.c64
    have c35:=L.tl.tl.tl.b0.c65
    go_region_held3 (fun w' => w'.cell? ⟨gs, 0, none⟩ = some (.bool (ng sa)) ∧ w'.cell? ⟨gs, 1, none⟩ = some (.slice A9 (zl sa) c9) ∧ w'.cell? ⟨gs, 2, none⟩ = some (.bool (ng sb)) ∧ w'.cell? ⟨gs, 3, none⟩ = some (.slice B9 (zl sb) d9) ∧ w'.cell? ⟨gr, 0, none⟩ = some (.bool (ng Mr)) ∧ w'.cell? ⟨gr, 1, none⟩ = some (.slice A1 (zl Mr) c1) ∧ w'.cell? ⟨gr, 2, none⟩ = some (.int .i64 Er) ∧ w'.cell? ⟨gr, 3, none⟩ = some (.bool (ng Ms)) ∧ w'.cell? ⟨gr, 4, none⟩ = some (.slice B1 (zl Ms) d1) ∧ w'.cell? ⟨gr, 5, none⟩ = some (.int .i64 Es)) (first | (with_reducible exact ⟨L.tl.tl.b0.c40, L.tl.tl.b0.c41, L.tl.tl.b0.c42, L.tl.tl.b0.c43, L.tl.tl.tl.b0.c60, L.tl.tl.tl.b0.c61, L.tl.tl.tl.b0.c62, L.tl.tl.tl.b0.c63, L.tl.tl.tl.b0.c64, L.tl.tl.tl.b0.c65⟩) | exact ⟨L.tl.tl.b0.c40, L.tl.tl.b0.c41, L.tl.tl.b0.c42, L.tl.tl.b0.c43, L.tl.tl.tl.b0.c60, L.tl.tl.tl.b0.c61, L.tl.tl.tl.b0.c62, L.tl.tl.tl.b0.c63, L.tl.tl.tl.b0.c64, L.tl.tl.tl.b0.c65⟩) (first | (go_at_call 48; (with_reducible refine (G9.out _ _ ?_).mono ?_); (· (refine isS_n (L.getN ?_) (L.getN ?_); all_goals (repeat (first | (with_reducible exact List.mem_cons_self) | apply List.mem_cons_of_mem)))); rintro e wh ⟨vh, rfl, ii, be⟩; obtain ⟨Ao, co, Bo, do9, rfl, ia, ib⟩:=ii.form; replace L:=((L.step be).n ib).n ia; clear be ii ia ib) | (go_at_call 47; (with_reducible refine (G10.out _ _ _ ?_ ?_).mono ?_); (· (refine isI_n (L.getN ?_) (L.getN ?_); all_goals (repeat (first | (with_reducible exact List.mem_cons_self) | apply List.mem_cons_of_mem)))); (· (refine isI_n (L.getN ?_) (L.getN ?_); all_goals (repeat (first | (with_reducible exact List.mem_cons_self) | apply List.mem_cons_of_mem)))); rintro e wh ⟨rfl, be⟩; replace L:=L.step be; clear be))
    (try go_wp2_with fail)
    (try go_ret)
    exact ⟨rfl, L.below⟩
  ·have e6 : decide (0 ≤ N) = true:=decide_eq_true hn
   have hsp:=HS1.out N hn
   obtain ⟨ca, hca⟩ : ∃ z, al * N = z:=⟨_, rfl⟩
   obtain ⟨cb, hcb⟩ : ∃ z, bl * N = z:=⟨_, rfl⟩
   have g7:=fun u W h => s13times_any al bl N u W h (by omega) (by omega) (by omega) (by omega)
   rw [hca, hcb] at g7 hsp
   rw [hca] at z5
   rw [hcb] at z6
   have g8:=fun u t W h h9 => s13sub_any aX bX ca cb u t W h h9 (by omega) (by omega) (by omega) (by omega)
   have z7:=zl_neg ca
   have z8:=zl_neg cb
   have z9:=zl_add aX (-cb)
   have z10:=zl_add bX (-ca)
   obtain ⟨sa, hsa⟩ : ∃ z, aX + -cb = z:=⟨_, rfl⟩
   obtain ⟨sb, hsb⟩ : ∃ z, bX + -ca = z:=⟨_, rfl⟩
   rw [hsa, hsb] at g8 hsp
   rw [hsa] at z9
   rw [hsb] at z10
   obtain ⟨hv, hp, hq⟩:=HV.out
   obtain ⟨b1, b2⟩:=HK.out
   have g9:=fun u W h => s13out_any sa sb v p 20 u W h (by omega) (by omega) (by omega) (by omega) (by omega)
   obtain ⟨l1, l2⟩:=hsp.out9 (k:=p) (j:=20) (by omega)
   have y1:=zl_shr sa 20
   have y2:=zl_cdv sb (n:=2 ^ 20) (by decide)
   obtain ⟨_, r1, r2, r3⟩:=npZ (T:=sa / 2 ^ 20) (j:=p) (by omega) (by omega)
   obtain ⟨_, r4, r5, r6⟩:=npZ (T:=cdv sb (2 ^ 20)) (j:=p) (by omega) (by omega)
   obtain ⟨Mo, hMo⟩ : ∃ z, mkM (sa / 2 ^ 20) (-(p : Int)) = z:=⟨_, rfl⟩
   obtain ⟨Eo, hEo⟩ : ∃ z, mkE (sa / 2 ^ 20) (-(p : Int)) = z:=⟨_, rfl⟩
   obtain ⟨No, hNo⟩ : ∃ z, mkM (cdv sb (2 ^ 20)) (-(p : Int)) = z:=⟨_, rfl⟩
   obtain ⟨Fo, hFo⟩ : ∃ z, mkE (cdv sb (2 ^ 20)) (-(p : Int)) = z:=⟨_, rfl⟩
   rw [hMo, hEo, hNo, hFo] at g9
   rw [hMo] at r1
   rw [hEo] at r2
   rw [hMo, hEo] at r3
   rw [hNo] at r4
   rw [hFo] at r5
   rw [hNo, hFo] at r6
   obtain ⟨x2, x3, x5⟩:=HX.out
   obtain ⟨y7, y8, y9⟩:=HY.out
   obtain ⟨rlo, rhi⟩:=HL.out
   have g10 : ∀ t u W, IsI W t Mr Er Ms Es → IsI W u Mo Eo No Fo → Calls Tryz.prog 47 #[t, u] W (RetB W true):=fun t u W h h9 => by
    have s:=s13touches_any _ _ _ _ _ _ _ _ t u W h h9 (by omega) (by omega) (by omega) (by omega) (by omega) (by omega) (by omega) (by omega)
    rwa [icm_meet9 (by rw [r3, y9]; exact Rat.le_trans l1 rhi) (by rw [x5, r6]; exact Rat.le_trans rlo l2)] at s
   have G7:=Lib.hid g7
   have G8:=Lib.hid g8
   have G9:=Lib.hid g9
   have G10:=Lib.hid g10
   clear g7 g8 g9 g10 hsp hca hcb z1 z2 z3 z4 z5 z6 z9 z10 hsa hsb hv hp hq b1 b2 l1 l2 y1 y2 r1 r2 r3 r4 r5 r6 hMo hEo hNo hFo x2 x3 x5 y7 y8 y9 rlo rhi hn z7 z8 hn1 hn2
   have c00:=L.b0.c40
   have c01:=L.b0.c41
   have c02:=L.b0.c42
   have c03:=L.b0.c43
   go_wp2_with fail
   clear c00 c01 c02 c03
   obtain ⟨gs, hgs⟩ : ∃ g9, w38.heap.size = g9:=⟨_, rfl⟩
   rw [hgs] at L hl9 ⊢
   clear hgs
   have hl_gs:=hl9
   clear hl9
   replace L:=L.drew
   have ns1 : gs ≠ gr:=by omega
   have ns2 : gs ≠ gx:=by omega
   have c00:=L.b0.c40
   have f00:=L.b0.fr 0
   have c01:=L.b0.c41
   have f01:=L.b0.fr 1
   have c02:=L.b0.c42
   have f02:=L.b0.fr 2
   have c03:=L.b0.c43
   have f03:=L.b0.fr 3
   go_cut [] from 119 to 125 (fun wx => ∃ (A9 B9 : Option Addr) (c9 d9 : Nat), Lq w wx [(.slice A9 (zl sa) c9, sa.natAbs), (.slice B9 (zl sb) d9, sb.natAbs), (.slice A1 (zl Mr) c1, Mr.natAbs), (.slice B1 (zl Ms) d1, Ms.natAbs), (.slice A6 (zl m) c6, m.natAbs)] [] [] [(gs, 71, #[.bool (ng sa), .slice A9 (zl sa) c9, .bool (ng sb), .slice B9 (zl sb) d9]), (gr, 28, #[.bool (ng Mr), .slice A1 (zl Mr) c1, .int .i64 Er, .bool (ng Ms), .slice B1 (zl Ms) d1, .int .i64 Es]), (gx, 26, #[.bool (ng m), .slice A6 (zl m) c6, .int .i64 e])])
   case first =>
    go_region_with (first | (go_at_call 45; (with_reducible refine (G6.out _).mono ?_); rintro e9 wh ⟨vh, rfl, iq, be⟩; obtain ⟨A7, c7, B7, d7, rfl, ia, ib⟩:=iq.form; replace L:=((L.step be).n ib).n ia; clear be iq ia ib; (try (have xx00:=L.b0.c40; have yy00:=L.b0.fr 0; have xx01:=L.b0.c41; have yy01:=L.b0.fr 1; have xx02:=L.b0.c42; have yy02:=L.b0.fr 2; have xx03:=L.b0.c43; have yy03:=L.b0.fr 3))) | (go_at_call 44; (with_reducible refine (G7.out _ _ ?_).mono ?_); (· (refine isS_n (L.getN ?_) (L.getN ?_); all_goals (repeat (first | (with_reducible exact List.mem_cons_self) | apply List.mem_cons_of_mem)))); rintro e9 wh ⟨vh, rfl, iq, be⟩; obtain ⟨A8, c8, B8, d8, rfl, ia, ib⟩:=iq.form; replace L:=((L.step be).n ib).n ia; clear be iq ia ib; (try (have xx00:=L.b0.c40; have yy00:=L.b0.fr 0; have xx01:=L.b0.c41; have yy01:=L.b0.fr 1; have xx02:=L.b0.c42; have yy02:=L.b0.fr 2; have xx03:=L.b0.c43; have yy03:=L.b0.fr 3))) | (go_at_call 43; (with_reducible refine (G8.out _ _ _ ?_ ?_).mono ?_); (· (refine isS_n (L.getN ?_) (L.getN ?_); all_goals (repeat (first | (with_reducible exact List.mem_cons_self) | apply List.mem_cons_of_mem)))); (· (refine isS_n (L.getN ?_) (L.getN ?_); all_goals (repeat (first | (with_reducible exact List.mem_cons_self) | apply List.mem_cons_of_mem)))); rintro e9 wh ⟨vh, rfl, iq, be⟩; obtain ⟨A9, c9, B9, d9, rfl, ia, ib⟩:=iq.form; replace L:=((L.step be).n ib).n ia; clear be iq ia ib; (try (have xx00:=L.b0.c40; have yy00:=L.b0.fr 0; have xx01:=L.b0.c41; have yy01:=L.b0.fr 1; have xx02:=L.b0.c42; have yy02:=L.b0.fr 2; have xx03:=L.b0.c43; have yy03:=L.b0.fr 3))))
    all_goals
     have P:=L.putS (by omega) (by simp [ns1, ns2, Ne.symm ns1, Ne.symm ns2]) (ng sa) A9 (zl sa) c9 (ng sb) B9 (zl sb) d9
     unfold put4 at P
     go_wp2_with fail
     go_meet
     exact ⟨A9, B9, c9, d9, P.subx (by simp) (by simp)⟩
   case rest =>
    clear L
    obtain ⟨A9, B9, c9, d9, L⟩:=hcut
    have c20:=L.tl.tl.b0.c30
    have c21:=L.tl.tl.b0.c31
    have c22:=L.tl.tl.b0.c32
    (try go_wp2_with fail)
    refine (G2.out _ _ (isD_n (m:=m) (e:=e) (s:=.slice A6 (zl m) c6) (L.getN (by simp))) L.below).mono ?_
    rintro e w44 ⟨v9, rfl, ii, be⟩
    clear c20 c21 c22
    obtain ⟨Au, cu, Bu, du, rfl, ia, ib⟩:=ii.form
    replace L:=((L.step be).n ib).n ia
    clear be ii ia ib
    have hl9:=L.b0.lt
    replace L:=L.varI w44.heap.size rfl (ng 0) Au (zl 0) cu 0 (ng 0) Bu (zl 0) du 0
    have c00:=L.b0.c60
    have c01:=L.b0.c61
    have c02:=L.b0.c62
    have c03:=L.b0.c63
    have c04:=L.b0.c64
    have c05:=L.b0.c65
    go_wp2_with fail
    clear c00 c01 c02 c03 c04 c05
    obtain ⟨gu, hgu⟩ : ∃ g9, w44.heap.size = g9:=⟨_, rfl⟩
    rw [hgu] at L hl9 ⊢
    clear hgu
    have hl_gu:=hl9
    clear hl9
    refine (G3.out _).mono ?_
    rintro e w45 ⟨v9, rfl, iz, be⟩
    obtain ⟨Ak, ck, rfl, _, in9⟩:=iz.form
    replace L:=(L.step be).n in9
    clear be iz in9
    (try go_wp2_with fail)
    refine (G4.out _ _ (isD_n (m:=Mk) (e:=Ek) (s:=.slice Ak (zl Mk) ck) (L.getN (by simp))) L.below).mono ?_
    rintro e w46 ⟨v9, rfl, ii, be⟩
    obtain ⟨Ay, cy, By, dy, rfl, ia, ib⟩:=ii.form
    replace L:=((L.step be).n ib).n ia
    clear be ii ia ib
    have hl9:=L.b0.lt
    replace L:=L.varI w46.heap.size rfl (ng 0) Ay (zl 0) cy 0 (ng 0) By (zl 0) dy 0
    have c00:=L.b0.c60
    have c01:=L.b0.c61
    have c02:=L.b0.c62
    have c03:=L.b0.c63
    have c04:=L.b0.c64
    have c05:=L.b0.c65
    go_wp2_with fail
    clear c00 c01 c02 c03 c04 c05
    obtain ⟨gy, hgy⟩ : ∃ g9, w46.heap.size = g9:=⟨_, rfl⟩
    rw [hgy] at L hl9 ⊢
    clear hgy
    have hl_gy:=hl9
    clear hl9
    replace L:=L.drew
    have c20:=L.tl.tl.b0.c40
    have c21:=L.tl.tl.b0.c41
    have c22:=L.tl.tl.b0.c42
    have c23:=L.tl.tl.b0.c43
    have c30:=L.tl.tl.tl.b0.c60
    have c31:=L.tl.tl.tl.b0.c61
    have c32:=L.tl.tl.tl.b0.c62
    have c33:=L.tl.tl.tl.b0.c63
    have c34:=L.tl.tl.tl.b0.c64
    have c35:=L.tl.tl.tl.b0.c65
    go_region_held3 (fun w' => w'.cell? ⟨gs, 0, none⟩ = some (.bool (ng sa)) ∧ w'.cell? ⟨gs, 1, none⟩ = some (.slice A9 (zl sa) c9) ∧ w'.cell? ⟨gs, 2, none⟩ = some (.bool (ng sb)) ∧ w'.cell? ⟨gs, 3, none⟩ = some (.slice B9 (zl sb) d9) ∧ w'.cell? ⟨gr, 0, none⟩ = some (.bool (ng Mr)) ∧ w'.cell? ⟨gr, 1, none⟩ = some (.slice A1 (zl Mr) c1) ∧ w'.cell? ⟨gr, 2, none⟩ = some (.int .i64 Er) ∧ w'.cell? ⟨gr, 3, none⟩ = some (.bool (ng Ms)) ∧ w'.cell? ⟨gr, 4, none⟩ = some (.slice B1 (zl Ms) d1) ∧ w'.cell? ⟨gr, 5, none⟩ = some (.int .i64 Es)) (first | (with_reducible exact ⟨L.tl.tl.b0.c40, L.tl.tl.b0.c41, L.tl.tl.b0.c42, L.tl.tl.b0.c43, L.tl.tl.tl.b0.c60, L.tl.tl.tl.b0.c61, L.tl.tl.tl.b0.c62, L.tl.tl.tl.b0.c63, L.tl.tl.tl.b0.c64, L.tl.tl.tl.b0.c65⟩) | exact ⟨L.tl.tl.b0.c40, L.tl.tl.b0.c41, L.tl.tl.b0.c42, L.tl.tl.b0.c43, L.tl.tl.tl.b0.c60, L.tl.tl.tl.b0.c61, L.tl.tl.tl.b0.c62, L.tl.tl.tl.b0.c63, L.tl.tl.tl.b0.c64, L.tl.tl.tl.b0.c65⟩) (first | (go_at_call 48; (with_reducible refine (G9.out _ _ ?_).mono ?_); (· (refine isS_n (L.getN ?_) (L.getN ?_); all_goals (repeat (first | (with_reducible exact List.mem_cons_self) | apply List.mem_cons_of_mem)))); rintro e wh ⟨vh, rfl, ii, be⟩; obtain ⟨Ao, co, Bo, do9, rfl, ia, ib⟩:=ii.form; replace L:=((L.step be).n ib).n ia; clear be ii ia ib) | (go_at_call 47; (with_reducible refine (G10.out _ _ _ ?_ ?_).mono ?_); (· (refine isI_n (L.getN ?_) (L.getN ?_); all_goals (repeat (first | (with_reducible exact List.mem_cons_self) | apply List.mem_cons_of_mem)))); (· (refine isI_n (L.getN ?_) (L.getN ?_); all_goals (repeat (first | (with_reducible exact List.mem_cons_self) | apply List.mem_cons_of_mem)))); rintro e wh ⟨rfl, be⟩; replace L:=L.step be; clear be))
    (try go_wp2_with fail)
    (try go_ret)
    exact ⟨rfl, L.below⟩

end Go.Proofs.YtnnfldkllhdhjaaGreatDoor
