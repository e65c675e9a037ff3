/- Base texts, joined: RefIvA, RefIvB, RefIvC, MillIv, MillTwoA, IvMath2. -/
import Derived.Test.YtiddbhhhmeopeaaGreatDoorBaseVE7
import Derived.Test.YtiddbhhhmeopeaaGreatDoorBaseEE7
import Derived.Deep.RegionHeld3
import Derived.Deep.DrawnRows
import Derived.Test.YtiddbhhhmeopeaaGreatDoorBaseFE7
import Derived.Deep.Cut
import Derived.Deep.CutRange
/- The reference's Valid, Within, Cmp, Sign, Same, least, greatest. -/
namespace Go.Proofs.YtiddbhhhmeopeaaGreatDoor
set_option maxHeartbeats 64000000
open Go.RowKit
set_option linter.unusedVariables false
set_option linter.unusedSimpArgs false
set_option maxRecDepth 100000
attribute [local go_sem ↓] Go.wp_at_zero Go.wp_at_succ
def RetMk (w : World) (m e n f : Int) : Ending → World → Prop:=if dcm m e n f ≤ 0 then RetIE w m e n f 0 else RetIE w 0 0 0 0 1
def RetSg (w : World) (m n : Int) (en : Ending) (w' : World) : Prop:=en = .returned (.tuple #[.int .i64 (if cmpI m 0 = cmpI n 0 then cmpI m 0 else 0), .bool (decide (cmpI m 0 = cmpI n 0))]) ∧ Below w.heap.size w w'

theorem r10same_any (m e n f m2 e2 n2 f2 : Int) (vx vy : Value) (w : World) (hx : IsI w vx m e n f) (hy : IsI w vy m2 e2 n2 f2) (lm : zl m ≤ 1000) (ln : zl n ≤ 1000) (lm2 : zl m2 ≤ 1000) (ln2 : zl n2 ≤ 1000) (he : -20000 ≤ e ∧ e ≤ 20000) (hf : -20000 ≤ f ∧ f ≤ 20000) (he2 : -20000 ≤ e2 ∧ e2 ≤ 20000) (hf2 : -20000 ≤ f2 ∧ f2 ≤ 20000) :
  Calls Tryz.prog 36 #[vx, vy] w (RetB w ((decide (e = e2) && decide (m = m2)) && (decide (f = f2) && decide (n = n2)))):=by
 obtain ⟨A, c, B, d, rfl, hn1, hn2⟩:=hx.form
 obtain ⟨A2, k2, B2, d2, rfl, hn3, hn4⟩:=hy.form
 have L0:=((((Lq.mk0 w).n hn4).n hn3).n hn2).n hn1
 have H1:=Hd9 (fun v u W h1 h2 => same8_any m e m2 e2 v u W h1 h2)
 have H2:=Hd9 (fun v u W h1 h2 => same8_any n f n2 f2 v u W h1 h2)
 generalize (decide (e = e2) && decide (m = m2)) = r1 at *
 generalize (decide (f = f2) && decide (n = n2)) = r2 at *
 clear hx hy hn1 hn2 hn3 hn4 lm ln lm2 ln2 he hf he2 hf2
 cases r1
 ·rw [Bool.false_and]
  go_enter Tryz.func36, Tryz.ntmps36
  go_wp2_with fail
  have L:=((L0.varI (w.heap.size) (by simp) (ng m) A (zl m) c e (ng n) B (zl n) d f).varI (w.heap.size + 1) (by simp) (ng m2) A2 (zl m2) k2 e2 (ng n2) B2 (zl n2) d2 f2)
  obtain ⟨c00,c01,c02,c03,c04,c05⟩:=L.b0.a6
  obtain ⟨c10,c11,c12,c13,c14,c15⟩:=L.tl.b0.a6
  (try go_wp2_with fail)
  refine (H1.out _ _ _ (isD_n (m:=m) (e:=e) (s:=.slice A (zl m) c) (L.getN (v:=.slice A (zl m) c) (x:=(m).natAbs) (by simp))) (isD_n (m:=m2) (e:=e2) (s:=.slice A2 (zl m2) k2) (L.getN (v:=.slice A2 (zl m2) k2) (x:=(m2).natAbs) (by simp)))).mono ?_
  rintro e w1 ⟨rfl, be⟩
  clear c00 c01 c02 c03 c04 c05 c10 c11 c12 c13 c14 c15
  replace L:=L.step be
  clear be
  obtain ⟨c00,c01,c02,c03,c04,c05⟩:=L.b0.a6
  obtain ⟨c10,c11,c12,c13,c14,c15⟩:=L.tl.b0.a6
  (try go_wp2_with fail)
  go_ret
  exact ⟨rfl, L.below⟩
 ·rw [Bool.true_and]
  go_enter Tryz.func36, Tryz.ntmps36
  go_wp2_with fail
  have L:=((L0.varI (w.heap.size) (by simp) (ng m) A (zl m) c e (ng n) B (zl n) d f).varI (w.heap.size + 1) (by simp) (ng m2) A2 (zl m2) k2 e2 (ng n2) B2 (zl n2) d2 f2)
  obtain ⟨c00,c01,c02,c03,c04,c05⟩:=L.b0.a6
  obtain ⟨c10,c11,c12,c13,c14,c15⟩:=L.tl.b0.a6
  (try go_wp2_with fail)
  refine (H1.out _ _ _ (isD_n (m:=m) (e:=e) (s:=.slice A (zl m) c) (L.getN (v:=.slice A (zl m) c) (x:=(m).natAbs) (by simp))) (isD_n (m:=m2) (e:=e2) (s:=.slice A2 (zl m2) k2) (L.getN (v:=.slice A2 (zl m2) k2) (x:=(m2).natAbs) (by simp)))).mono ?_
  rintro e w1 ⟨rfl, be⟩
  clear c00 c01 c02 c03 c04 c05 c10 c11 c12 c13 c14 c15
  replace L:=L.step be
  clear be
  obtain ⟨c00,c01,c02,c03,c04,c05⟩:=L.b0.a6
  obtain ⟨c10,c11,c12,c13,c14,c15⟩:=L.tl.b0.a6
  (try go_wp2_with fail)
  refine (H2.out _ _ _ (isD_n (m:=n) (e:=f) (s:=.slice B (zl n) d) (L.getN (v:=.slice B (zl n) d) (x:=(n).natAbs) (by simp))) (isD_n (m:=n2) (e:=f2) (s:=.slice B2 (zl n2) d2) (L.getN (v:=.slice B2 (zl n2) d2) (x:=(n2).natAbs) (by simp)))).mono ?_
  rintro e w2 ⟨rfl, be⟩
  clear c00 c01 c02 c03 c04 c05 c10 c11 c12 c13 c14 c15
  replace L:=L.step be
  clear be
  (try go_wp2_with fail)
  go_ret
  exact ⟨rfl, L.below⟩
end Go.Proofs.YtiddbhhhmeopeaaGreatDoor


/- The reference's Has, Hull, Meet. -/
namespace Go.Proofs.YtiddbhhhmeopeaaGreatDoor
set_option maxHeartbeats 64000000
open Go.RowKit
set_option linter.unusedVariables false
set_option linter.unusedSimpArgs false
set_option maxRecDepth 100000
attribute [local go_sem ↓] Go.wp_at_zero Go.wp_at_succ
def mtB (m e n f m2 e2 n2 f2 : Int) : Bool:=decide (dcm (gstD m e m2 e2).1 (gstD m e m2 e2).2 (lstD n f n2 f2).1 (lstD n f n2 f2).2 ≤ 0)
def RetMt (w : World) (m e n f m2 e2 n2 f2 : Int) : Ending → World → Prop:=if mtB m e n f m2 e2 n2 f2 then RetIV w (gstD m e m2 e2).1 (gstD m e m2 e2).2 (lstD n f n2 f2).1 (lstD n f n2 f2).2 true else RetIV w 0 0 0 0 false
end Go.Proofs.YtiddbhhhmeopeaaGreatDoor


/- The reference's Shift, Width, Mid. -/
namespace Go.Proofs.YtiddbhhhmeopeaaGreatDoor
set_option maxHeartbeats 64000000
open Go.RowKit
set_option linter.unusedVariables false
set_option linter.unusedSimpArgs false
set_option maxRecDepth 100000
attribute [local go_sem ↓] Go.wp_at_zero Go.wp_at_succ

theorem rshift8_any (m e k : Int) (vx : Value) (w : World) (hx : IsD w vx m e) (lm : zl m ≤ 100000) (he : -1000000 ≤ e ∧ e ≤ 1000000) (hk : -65536 ≤ k ∧ k ≤ 65536) :
  Calls Tryz.prog 20 #[vx, .int .i64 k] w (RetDE w (mkM m (e + k)) (mkE m (e + k)) (mkR m (e + k))):=by
 obtain ⟨A, c, rfl, hz, hn⟩:=hx.form
 have L0:=(Lq.mk0 w).z hz
 obtain ⟨s, hs⟩:=nm9 (e + k)
 have hw : IntKind.i64.wrap (e + k) = s:=by rw [← hs, IntKind.wrap_i64]; omega
 have b1 : decide (k < -65536) = false:=decide_eq_false (by omega)
 have b2 : decide (65536 < k) = false:=decide_eq_false (by omega)
 have HM0:=fun v W h => rmake8_any m s v W h (by omega)
 rw [hs]
 generalize mkM m s = M at *
 generalize mkE m s = E at *
 generalize mkR m s = R at *
 have HM:=Hd9 HM0
 clear HM0 hs hx hz hn lm he hk
 go_enter Tryz.func20, Tryz.ntmps20
 go_wp2_with fail
 have L:=((L0.varD (w.heap.size) (by simp) (ng m) A (zl m) c e).varD (w.heap.size + 1) (by simp) false none 0 0 0)
 obtain ⟨c00,c01,c02⟩:=L.b0.a3
 obtain ⟨f00,f01,f02⟩:=L.b0.f3
 obtain ⟨c10,c11,c12⟩:=L.tl.b0.a3
 obtain ⟨f10,f11,f12⟩:=L.tl.b0.f3
 (try go_wp2_with fail)
 refine (HM.out _ _ (L.getZ (v:=.agg #[.bool (ng m), .slice A (zl m) c]) (by simp))).mono ?_
 rintro e w1 ⟨v8, rfl, id, be⟩
 clear c00 f00 c01 f01 c02 f02 c10 f10 c11 f11 c12 f12
 obtain ⟨A9, c9, rfl, _, in9⟩:=id.form
 replace L:=(L.step be).n in9
 clear be in9 id
 obtain ⟨c00,c01,c02⟩:=L.b0.a3
 obtain ⟨f00,f01,f02⟩:=L.b0.f3
 obtain ⟨c10,c11,c12⟩:=L.tl.b0.a3
 (try go_wp2_with fail)
 have LP:=L.putD (by omega) (by first | (simp; done) | (simp; omega)) (ng M) A9 (zl M) c9 (E)
 obtain ⟨k0,k1,k2⟩:=LP.b0.a3
 unfold put3 at k0 k1 k2
 exact bodyPost_ret (v:=.tuple #[.agg #[.bool (ng M), .slice A9 (zl M) c9, .int .i64 (E)], .int .i64 R]) (by simp [results, Tryz.results20, go_sem, k0, k1, k2]) rfl ⟨_, rfl, isD_n LP.hn, LP.below⟩
end Go.Proofs.YtiddbhhhmeopeaaGreatDoor


/- The mill's intervals; the laws' two, and their interval between two integers. -/
namespace Go.Proofs.YtiddbhhhmeopeaaGreatDoor
set_option maxHeartbeats 64000000
open Go.RowKit
set_option linter.unusedVariables false
set_option linter.unusedSimpArgs false
set_option maxRecDepth 100000
attribute [local go_sem ↓] Go.wp_at_zero Go.wp_at_succ
def RetMillI (w : World) (k K : Nat) (en : Ending) (w' : World) : Prop:=∃ v ok m e n f, en = .returned (.tuple #[v, .bool ok]) ∧ IsI w' v m e n f ∧ (zl m ≤ k + 1 ∧ zl n ≤ k + 1) ∧ (-(K : Int) ≤ e ∧ e ≤ (K : Int) + 32 * ((k : Int) + 1)) ∧ (-(K : Int) ≤ f ∧ f ≤ (K : Int) + 32 * ((k : Int) + 1)) ∧ (ok = true → Dv m e ∧ Dv n f) ∧ dcm m e n f ≤ 0 ∧ Below w.heap.size w w'

theorem millI_any (b b' : Bool) (l l' : List Nat) (k K : Nat) (A A' : Option Addr) (p c p' c' : Nat) (e e' : Int) (w : World) (h : Sl w A p c l) (h' : Sl w A' p' c' l') (hk : k ≤ 1000) (hK : K ≤ 1000) (h1 : -9223372036854775808 ≤ e) (h2 : e ≤ 9223372036854775807) (h3 : -9223372036854775808 ≤ e') (h4 : e' ≤ 9223372036854775807) :
  Calls Tryz.prog 13 #[.agg #[.bool b, .slice A p c, .int .i64 e, .bool b', .slice A' p' c', .int .i64 e'], .int .i64 (k : Int), .int .i64 (K : Int)] w (RetMillI w k K):=by
 have H1:=Hd9 (fun W (hW : Below w.heap.size w W) => millD_any b l k K A p c e W (h.mono hW) (by omega) (by omega) h1 h2)
 have H2:=Hd9 (fun W (hW : Below w.heap.size w W) => millD_any b' l' k K A' p' c' e' W (h'.mono hW) (by omega) (by omega) h3 h4)
 clear h h' h1 h2 h3 h4
 go_enter Tryz.func13, Tryz.ntmps13
 go_wp2_with fail
 have L:=(((Lq.mk0 w).varI (w.heap.size) (by simp) b A p c e b' A' p' c' e').varI (w.heap.size + 1) (by simp) false none 0 0 0 false none 0 0 0)
 obtain ⟨c00,c01,c02,c03,c04,c05⟩:=L.b0.a6
 obtain ⟨c10,c11,c12,c13,c14,c15⟩:=L.tl.b0.a6
 (try go_wp2_with fail)
 refine (H1.out _ L.below).mono ?_
 rintro e w1 ⟨v1, ok1, m, me, rfl, id, lm, lm2, lm3, dm, be⟩
 clear c00 c01 c02 c03 c04 c05 c10 c11 c12 c13 c14 c15
 obtain ⟨A1, c1, rfl, _, in9⟩:=id.form
 replace L:=(L.step be).n in9
 clear be id in9
 have hlg:=L.b0.lt
 replace L:=L.varD w1.heap.size rfl (ng m) A1 (zl m) c1 me
 obtain ⟨c00,c01,c02⟩:=L.b0.a3
 obtain ⟨c20,c21,c22,c23,c24,c25⟩:=L.tl.tl.b0.a6
 go_wp2_with fail
 obtain ⟨g, hg⟩:=nm9 (w1.heap.size)
 rw [hg] at L hlg c00 c01 c02 ⊢
 clear hg
 clear c00 c01 c02 c20 c21 c22 c23 c24 c25
 refine (H2.out _ L.below).mono ?_
 rintro e w2 ⟨v2, ok2, n, ne, rfl, id, ln, ln2, ln3, dn, be⟩
 obtain ⟨A2, c2, rfl, _, in9⟩:=id.form
 replace L:=(L.step be).n in9
 clear be id in9
 have hlk9:=L.b0.lt
 replace L:=L.varD w2.heap.size rfl (ng n) A2 (zl n) c2 ne
 obtain ⟨x, hx⟩:=nm9 (dcm m me n ne)
 have hc:=fun v u W h1 h2 => rcmp8_any m me n ne v u W h1 h2 (by omega) (by omega) (by omega) (by omega)
 have hx2:=hx
 unfold dcm at hx2
 rw [hx2] at hc
 have HC:=Hd9 hc
 clear hc hx2
 obtain ⟨c00,c01,c02⟩:=L.b0.a3
 obtain ⟨c10,c11,c12⟩:=L.tl.b0.a3
 go_wp2_with fail
 obtain ⟨g2, hg⟩:=nm9 (w2.heap.size)
 rw [hg] at L hlk9 c00 c01 c02 ⊢
 clear hg
 refine (HC.out _ _ _ (isD_n (s:=.slice A1 (zl m) c1) (L.getN (by simp))) (isD_n (s:=.slice A2 (zl n) c2) (L.getN (by simp)))).mono ?_
 rintro e w3 ⟨rfl, be⟩
 clear c00 c01 c02 c10 c11 c12
 replace L:=L.step be
 clear be
 have n1 : g2 ≠ g:=by omega
 have n2 : w.heap.size + 1 ≠ g:=by omega
 have n3 : w.heap.size + 1 ≠ g2:=by omega
 have n4 : w.heap.size ≠ g:=by omega
 have n5 : w.heap.size ≠ g2:=by omega
 by_cases q : 0 < x
 ·have b1 : decide (0 < x) = true:=decide_eq_true q
  obtain ⟨c00,c01,c02⟩:=L.b0.a3
  obtain ⟨f00,f01,f02⟩:=L.b0.f3
  obtain ⟨c10,c11,c12⟩:=L.tl.b0.a3
  obtain ⟨f10,f11,f12⟩:=L.tl.b0.f3
  have p1:=(L.swap.putD (by omega) (by simp [n1, n2, n3, n4, n5]) (ng n) A2 (zl n) c2 ne)
  have p2:=(p1.swap.putD (by omega) (by simp [n1, n2, n3, n4, n5, Ne.symm n1]) (ng m) A1 (zl m) c1 me)
  obtain ⟨x10,x11,x12⟩:=p1.b0.a3
  obtain ⟨x20,x21,x22⟩:=p1.tl.b0.a3
  obtain ⟨y20,y21,y22⟩:=p1.tl.b0.f3
  obtain ⟨x30,x31,x32⟩:=p2.b0.a3
  obtain ⟨x40,x41,x42⟩:=p2.tl.b0.a3
  replace L:=p2.pull2
  obtain ⟨z0,z1,z2,z3,z4,z5⟩:=L.b0.f6
  clear p1 p2
  unfold put3 at *
  have hxs : dcm n ne m me ≤ 0:=by rw [dcm_swap m me n ne, hx]; omega
  cases ok1
  ·skip
   obtain ⟨c00,c01,c02,c03,c04,c05⟩:=L.b0.a6
   obtain ⟨f00,f01,f02,f03,f04,f05⟩:=L.b0.f6
   obtain ⟨c10,c11,c12⟩:=L.tl.b0.a3
   obtain ⟨c20,c21,c22⟩:=L.tl.tl.b0.a3
   go_wp2_with fail
   have LP:=L.putI (by omega) (by simp [n1, n2, n3, n4, n5, Ne.symm n2, Ne.symm n3]) (ng n) A2 (zl n) c2 ne (ng m) A1 (zl m) c1 me
   obtain ⟨k0,k1,k2,k3,k4,k5⟩:=LP.b0.a6
   unfold put6 at k0 k1 k2 k3 k4 k5
   exact bodyPost_ret (v:=.tuple #[.agg #[.bool (ng n), .slice A2 (zl n) c2, .int .i64 ne, .bool (ng m), .slice A1 (zl m) c1, .int .i64 me], .bool false]) (by simp [results, Tryz.results13, go_sem, k0, k1, k2, k3, k4, k5]) rfl ⟨_, _, _, _, _, _, rfl, isI_n (LP.getN (by simp)) (LP.getN (by simp)), ⟨ln, lm⟩, ⟨by omega, by omega⟩, ⟨by omega, by omega⟩, fun h => (by cases h), hxs, LP.below⟩
  ·skip
   obtain ⟨c00,c01,c02,c03,c04,c05⟩:=L.b0.a6
   obtain ⟨f00,f01,f02,f03,f04,f05⟩:=L.b0.f6
   obtain ⟨c10,c11,c12⟩:=L.tl.b0.a3
   obtain ⟨c20,c21,c22⟩:=L.tl.tl.b0.a3
   go_wp2_with fail
   have LP:=L.putI (by omega) (by simp [n1, n2, n3, n4, n5, Ne.symm n2, Ne.symm n3]) (ng n) A2 (zl n) c2 ne (ng m) A1 (zl m) c1 me
   obtain ⟨k0,k1,k2,k3,k4,k5⟩:=LP.b0.a6
   unfold put6 at k0 k1 k2 k3 k4 k5
   exact bodyPost_ret (v:=.tuple #[.agg #[.bool (ng n), .slice A2 (zl n) c2, .int .i64 ne, .bool (ng m), .slice A1 (zl m) c1, .int .i64 me], .bool ok2]) (by simp [results, Tryz.results13, go_sem, k0, k1, k2, k3, k4, k5]) rfl ⟨_, _, _, _, _, _, rfl, isI_n (LP.getN (by simp)) (LP.getN (by simp)), ⟨ln, lm⟩, ⟨by omega, by omega⟩, ⟨by omega, by omega⟩, fun h => ⟨dn h, dm (by first | trivial | rfl)⟩, hxs, LP.below⟩
 ·have b1 : decide (0 < x) = false:=decide_eq_false q
  replace L:=L.pull2
  cases ok1
  ·skip
   obtain ⟨c00,c01,c02,c03,c04,c05⟩:=L.b0.a6
   obtain ⟨f00,f01,f02,f03,f04,f05⟩:=L.b0.f6
   obtain ⟨c10,c11,c12⟩:=L.tl.b0.a3
   obtain ⟨c20,c21,c22⟩:=L.tl.tl.b0.a3
   go_wp2_with fail
   have LP:=L.putI (by omega) (by simp [n1, n2, n3, n4, n5, Ne.symm n2, Ne.symm n3]) (ng m) A1 (zl m) c1 me (ng n) A2 (zl n) c2 ne
   obtain ⟨k0,k1,k2,k3,k4,k5⟩:=LP.b0.a6
   unfold put6 at k0 k1 k2 k3 k4 k5
   exact bodyPost_ret (v:=.tuple #[.agg #[.bool (ng m), .slice A1 (zl m) c1, .int .i64 me, .bool (ng n), .slice A2 (zl n) c2, .int .i64 ne], .bool false]) (by simp [results, Tryz.results13, go_sem, k0, k1, k2, k3, k4, k5]) rfl ⟨_, _, _, _, _, _, rfl, isI_n (LP.getN (by simp)) (LP.getN (by simp)), ⟨lm, ln⟩, ⟨by omega, by omega⟩, ⟨by omega, by omega⟩, fun h => (by cases h), (by rw [hx]; omega), LP.below⟩
  ·skip
   obtain ⟨c00,c01,c02,c03,c04,c05⟩:=L.b0.a6
   obtain ⟨f00,f01,f02,f03,f04,f05⟩:=L.b0.f6
   obtain ⟨c10,c11,c12⟩:=L.tl.b0.a3
   obtain ⟨c20,c21,c22⟩:=L.tl.tl.b0.a3
   go_wp2_with fail
   have LP:=L.putI (by omega) (by simp [n1, n2, n3, n4, n5, Ne.symm n2, Ne.symm n3]) (ng m) A1 (zl m) c1 me (ng n) A2 (zl n) c2 ne
   obtain ⟨k0,k1,k2,k3,k4,k5⟩:=LP.b0.a6
   unfold put6 at k0 k1 k2 k3 k4 k5
   exact bodyPost_ret (v:=.tuple #[.agg #[.bool (ng m), .slice A1 (zl m) c1, .int .i64 me, .bool (ng n), .slice A2 (zl n) c2, .int .i64 ne], .bool ok2]) (by simp [results, Tryz.results13, go_sem, k0, k1, k2, k3, k4, k5]) rfl ⟨_, _, _, _, _, _, rfl, isI_n (LP.getN (by simp)) (LP.getN (by simp)), ⟨lm, ln⟩, ⟨by omega, by omega⟩, ⟨by omega, by omega⟩, fun h => ⟨dm (by first | trivial | rfl), dn h⟩, (by rw [hx]; omega), LP.below⟩
end Go.Proofs.YtiddbhhhmeopeaaGreatDoor


/- The laws' pair of intervals. -/
namespace Go.Proofs.YtiddbhhhmeopeaaGreatDoor
set_option maxHeartbeats 64000000
open Go.RowKit
set_option linter.unusedVariables false
set_option linter.unusedSimpArgs false
set_option maxRecDepth 100000
attribute [local go_sem ↓] Go.wp_at_zero Go.wp_at_succ

end Go.Proofs.YtiddbhhhmeopeaaGreatDoor


/- What the walks of layer 10's laws lean on. -/
namespace Go.Proofs.YtiddbhhhmeopeaaGreatDoor
set_option maxHeartbeats 64000000
open Go.RowKit
set_option linter.unusedVariables false
set_option linter.unusedSimpArgs false
set_option maxRecDepth 100000
attribute [local go_sem ↓] Go.wp_at_zero Go.wp_at_succ

theorem dcm_zero (n f : Int) : dcm n f 0 0 = cmpI n 0:=by
 unfold dcm
 have h:=cmpI_scale n 0 (pow2_pos (f - min f 0).toNat)
 rw [Int.zero_mul] at h ⊢
 exact h
end Go.Proofs.YtiddbhhhmeopeaaGreatDoor

