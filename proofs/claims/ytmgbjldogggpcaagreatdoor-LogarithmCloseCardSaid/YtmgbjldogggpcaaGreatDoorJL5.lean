/- Joined: MillIvT, LnLT, LnO, DyOpen, IvOpen (what the law leans on). -/
import Derived.Test.YtmgbjldogggpcaaGreatDoorBaseIL
import Derived.Test.YtmgbjldogggpcaaGreatDoorBaseDL
import Derived.Test.YtmgbjldogggpcaaGreatDoorBaseEL
import Derived.Test.YtmgbjldogggpcaaGreatDoorBaseVL
import Derived.Test.YtmgbjldogggpcaaGreatDoorBaseWL
import Derived.Test.YtmgbjldogggpcaaGreatDoorJL1
import Derived.Test.YtmgbjldogggpcaaGreatDoorJL2
import Derived.Test.YtmgbjldogggpcaaGreatDoorJL3
import Derived.Test.YtmgbjldogggpcaaGreatDoorJL4
import Derived.ChangeOld
import Derived.Deep.Cut
import Derived.Deep.CutRange
import Derived.Deep.DrawnRows
import Derived.Deep.RegionHeld3
import Derived.Lib.SmallJoins
import Derived.OpenShut
import Derived.ProofKit
namespace Go.Proofs.YtmgbjldogggpcaaGreatDoor
set_option maxHeartbeats 64000000
open Go.RowKit
set_option linter.unusedVariables false
set_option linter.unusedSimpArgs false
set_option maxRecDepth 100000
attribute [local go_sem ↓] Go.wp_at_zero Go.wp_at_succ
def DvT (K k : Nat) (m e : Int) : Prop:=Dv m e ∧ topZ m e ≤ (K : Int) + 32 * (k : Int)
theorem top_z {m e : Int} {k : Nat} (hz : zl m ≤ k) {K : Int} (he : e ≤ K) (h0 : 0 ≤ K + 32 * (k : Int)) : topZ m e ≤ K + 32 * (k : Int):=by
 have h:=blen_le_len m.natAbs
 have e1 : zl m = len m.natAbs:=rfl
 unfold topZ
 split <;> omega
theorem mkT_ok {m e : Int} {K k : Nat} (hz : zl m ≤ k) (he : e ≤ (K : Int)) (h : mkR m e = 0) : DvT K k (mkM m e) (mkE m e):=by
 refine ⟨mk_ok h, ?_⟩
 have h1:=top_z hz he (by omega)
 rw [top_iff (by omega)] at h1 ⊢
 rw [dq_mk h]
 exact h1
theorem dvt_opp {K k : Nat} {m e : Int} (h : DvT K k m e) : DvT K k (-m) e:=by
 obtain ⟨h1, h2⟩:=h
 refine ⟨?_, ?_⟩
 ·rcases h1 with ⟨h1, h3⟩ | ⟨h1, h3⟩
  ·exact Or.inl ⟨by omega, h3⟩
  ·refine Or.inr ⟨by omega, ?_⟩
   unfold fits8 at *
   rwa [Int.natAbs_neg]
 ·rw [top_iff (by omega)] at h2 ⊢
  rw [dq_neg]
  generalize dq m e = x at *
  generalize dq 1 ((K : Int) + 32 * (k : Int)) = y at *
  clear h1
  constructor <;> grind
def RetMillDT (w : World) (k K : Nat) (e : Ending) (w' : World) : Prop:=∃ v ok x f, e = .returned (.tuple #[v, .bool ok]) ∧ IsD w' v x f ∧ zl x ≤ k + 1 ∧ -(K : Int) ≤ f ∧ f ≤ (K : Int) + 32 * ((k : Int) + 1) ∧ (ok = true → DvT K k x f) ∧ Below w.heap.size w w'

theorem millDT_any (b : Bool) (l : List Nat) (m K : Nat) (A : Option Addr) (n c : Nat) (e : Int) (w : World) (h : Sl w A n c l) (hm : m ≤ 10000) (hK : K ≤ 100000) (h1 : -9223372036854775808 ≤ e) (h2 : e ≤ 9223372036854775807) :
  Calls Tryz.prog 23 #[.agg #[.bool b, .slice A n c, .int .i64 e], .int .i64 (m : Int), .int .i64 (K : Int)] w (RetMillDT w m K):=by
 have H1:=Hd9 (fun W (hW : Below w.heap.size w W) => millZ_any b l m A n c W (h.mono hW) (by omega))
 have HD:=Hd9 (fun W => mod_any e (2 * (K : Int) + 1) W (by omega) (by omega) h1 h2)
 have hg1 : 0 ≤ e % (2 * (K : Int) + 1):=Int.emod_nonneg _ (by omega)
 have hg2 : e % (2 * (K : Int) + 1) < 2 * (K : Int) + 1:=Int.emod_lt_of_pos _ (by omega)
 obtain ⟨K2, hK2⟩ : ∃ K2 : Int, 2 * (K : Int) = K2:=⟨_, rfl⟩
 obtain ⟨K3, hK3⟩ : ∃ K3 : Int, K2 + 1 = K3:=⟨_, rfl⟩
 have hw1 : IntKind.i64.wrap (2 * (K : Int)) = K2:=by rw [IntKind.wrap_i64]; omega
 have hw2 : IntKind.i64.wrap (K2 + 1) = K3:=by rw [IntKind.wrap_i64]; omega
 rw [hK2, hK3] at HD hg1 hg2
 obtain ⟨r, hr⟩:=nm9 (e % K3)
 rw [hr] at HD hg1 hg2
 obtain ⟨G, hG⟩ : ∃ G : Int, r - (K : Int) = G:=⟨_, rfl⟩
 have hw3 : IntKind.i64.wrap (r - (K : Int)) = G:=by rw [IntKind.wrap_i64]; omega
 have hG1 : -(K : Int) ≤ G:=by omega
 have hG2 : G ≤ (K : Int):=by omega
 clear h hr hG hg1 hg2 hK2 hK3
 go_enter Tryz.func23, Tryz.ntmps23
 go_wp2_with fail
 have L:=(((Lq.mk0 w).varD (w.heap.size) (by simp) b A n c e).varD (w.heap.size + 1) (by simp) false none 0 0 0)
 obtain ⟨c00,c01,c02⟩:=L.b0.a3
 obtain ⟨f00,f01,f02⟩:=L.b0.f3
 obtain ⟨c10,c11,c12⟩:=L.tl.b0.a3
 refine (H1.out _ L.below).mono ?_
 rintro e w1 ⟨v1, ok1, z, rfl, iz, lz, be⟩
 clear c00 f00 c01 f01 c02 f02 c10 c11 c12
 replace L:=(L.step be).z iz
 obtain ⟨A1, c1, rfl, in1⟩:=iz.form
 replace L:=L.n in1
 clear be iz in1
 have hlt:=L.b0.lt
 obtain ⟨c00,c01,c02⟩:=L.b0.a3
 obtain ⟨f00,f01,f02⟩:=L.b0.f3
 obtain ⟨c10,c11,c12⟩:=L.tl.b0.a3
 obtain ⟨f10,f11,f12⟩:=L.tl.b0.f3
 have LP0:=L.putD (by omega) (by first | (simp; done) | (simp; omega)) false none 0 0 0
 replace L:=L.varZ w1.heap.size rfl (ng z) A1 (zl z) c1
 cases ok1
 ·go_wp2_with fail
  have LP:=LP0.varZ _ rfl (ng z) A1 (zl z) c1
  obtain ⟨k0,k1,k2⟩:=LP.tl.b0.a3
  unfold put3 at k0 k1 k2
  exact bodyPost_ret (v:=.tuple #[.agg #[.bool false, .slice none 0 0, .int .i64 0], .bool false]) (by simp [results, Tryz.results23, go_sem, k0, k1, k2]) rfl ⟨_, _, _, _, rfl, isD_zero _, by rw [zl_zero]; omega, by omega, by omega, fun h => (by cases h), LP.below⟩
 ·clear LP0
  go_wp2_with fail
  obtain ⟨g, hg⟩:=nm9 (w1.heap.size)
  rw [hg] at L hlt ⊢
  have hm0:=fun v W h => rmake8_any z G v W h (by omega)
  have lz2:=zl_mk z G
  have hE:=mkE_le (m:=z) hG1 hG2
  have HOK:=Hd9 (fun h => mkT_ok (K:=K) (k:=m) lz hG2 h)
  generalize mkM z G = M at *
  generalize mkE z G = E at *
  generalize mkR z G = R at *
  have HM:=Hd9 hm0
  clear hm0
  have HZ:=Hd9 (L.getZ (v:=.agg #[.bool (ng z), .slice A1 (zl z) c1]) (x:=z) (by simp))
  obtain ⟨V, hV⟩:=nm9 (w1.alloc (.cells #[.bool (ng z), .slice A1 (zl z) c1] 24))
  rw [hV] at L HZ ⊢
  clear hV hg
  have Q0:=Hd9 (fun Z (hZ : Below V.heap.size V Z) => (L.b0.mono hZ).c20)
  have Q1:=Hd9 (fun Z (hZ : Below V.heap.size V Z) => (L.b0.mono hZ).c21)
  have Q2:=Hd9 (fun Z (hZ : Below V.heap.size V Z) => (L.tl.tl.b0.mono hZ).c32)
  have hgm0:=L.b0.lt
  have LL:=Hd9 L
  clear L
  clear c00 f00 c01 f01 c02 f02 c10 f10 c11 f11 c12 f12
  have D0 : Dq V V [] [(.agg #[.bool (ng z), .slice A1 (zl z) c1], z)] [] []:=⟨(Lq.mk0 V).z HZ.out, List.nodup_nil, fun p hp => by cases hp⟩
  have D:=D0.drew
  obtain ⟨k, hk⟩:=nm9 (V.heap.size)
  have hgm : g < k:=by omega
  have hgx : w.heap.size < k:=by omega
  have hz0 : k ≤ V.heap.size:=by omega
  have hmd : V.drew.heap.size = k:=hk
  go_cut [10, 11] from 23 to 34 (fun s5 s6 wx => Made1D V M E s5 wx ∧ s6 = .int .i64 R)
  case first =>
   go_region_held3 (fun w' => w'.cell? ⟨g, 0, none⟩ = some (.bool (ng z)) ∧ w'.cell? ⟨g, 1, none⟩ = some (.slice A1 (zl z) c1) ∧ w'.cell? ⟨w.heap.size, 2, none⟩ = some (.int .i64 e)) (((try dsimp only); refine ⟨?_, ?_, ?_⟩ <;> (repeat (first | (with_reducible exact Q0.out _ D.lq.below) | (with_reducible exact Q0.out _ D0.lq.below) | (with_reducible exact Q1.out _ D.lq.below) | (with_reducible exact Q1.out _ D0.lq.below) | (with_reducible exact Q2.out _ D.lq.below) | (with_reducible exact Q2.out _ D0.lq.below) | (with_reducible refine c_alloc _ ?_) | (with_reducible refine c_drew ?_) | (with_reducible refine c_set ?_ (by assumption) ?_) | omega)))) (first | (go_at_call 14; (with_reducible refine (HD.out _ ).mono ?_); rintro e9 wh ⟨rfl, rfl⟩; (try (obtain ⟨x00,x01,x02⟩:=D.lq.b0.a3; obtain ⟨y00,y01,y02⟩:=D.lq.b0.f3)); (try obtain ⟨na, nb, nc, nd, nl⟩:=D.n0)) | (go_at_call 46; (with_reducible refine (HM.out _ _ ?_ ).mono ?_); (· (first | (with_reducible refine D.getZ ?_; (repeat (first | (with_reducible exact mS) | apply mT))) | (with_reducible refine (D.boxD false none 0 0 0).getZ ?_; (repeat (first | (with_reducible exact mS) | apply mT))) | (with_reducible refine (D0.boxD false none 0 0 0).drew.getZ ?_; (repeat (first | (with_reducible exact mS) | apply mT))))); rintro e9 wh ⟨vh, rfl, id, be⟩; obtain ⟨A9, c9, rfl, _, in9⟩:=id.form; (first | (replace D:=(D.step be).n in9) | (replace D:=((D.boxMD hmd false none 0 0 0).step be).n in9) | (replace D:=((D.boxD false none 0 0 0).step be).n in9)); have hz:=(be).size; (try simp at hz); (try (obtain ⟨x00,x01,x02⟩:=D.lq.b0.a3; obtain ⟨y00,y01,y02⟩:=D.lq.b0.f3)); (try obtain ⟨na, nb, nc, nd, nl⟩:=D.n0)))
   all_goals
    go_wp2_with fail
    go_meet
    refine ⟨?_, rfl⟩
    first
    | ((with_reducible refine made1d_a D ?_) <;> (repeat (first | (with_reducible exact mS) | apply mT)))
    | ((with_reducible refine made1d_b D ?_) <;> (repeat (first | (with_reducible exact mS) | apply mT)))
  case rest =>
   obtain ⟨⟨g2, A3, c5, rfl, hg2, bw, hbx, hqq⟩, rfl⟩:=hcut
   have L:=(LL.out.step bw).n hqq
   clear D D0 hmd hz0 hgm hgx HZ Q0 Q1 Q2
   generalize wc = wd at *
   have hne : w.heap.size + 1 ≠ g2:=by omega
   replace L:=L.b hbx
   obtain ⟨q0,q1,q2⟩:=L.b0.a3
   obtain ⟨r0,r1,r2⟩:=L.tl.tl.b0.a3
   obtain ⟨s0,s1,s2⟩:=L.tl.tl.b0.f3
   go_wp2_with fail
   have LP:=L.pull2.putD (by omega) (by first | (simp; done) | (simp; omega)) (ng M) A3 (zl M) c5 E
   obtain ⟨k0,k1,k2⟩:=LP.b0.a3
   unfold put3 at k0 k1 k2
   exact bodyPost_ret (v:=.tuple #[.agg #[.bool (ng M), .slice A3 (zl M) c5, .int .i64 E], .bool (R == 0)]) (by simp [results, Tryz.results23, go_sem, k0, k1, k2]) rfl ⟨_, _, _, _, rfl, isD_n LP.hn, by omega, by omega, by omega, fun h => HOK.out (by simpa using h), LP.below⟩
def RetMillIT (w : World) (k K : Nat) (en : Ending) (w' : World) : Prop:=∃ v ok m e n f, en = .returned (.tuple #[v, .bool ok]) ∧ IsI w' v m e n f ∧ (zl m ≤ k + 1 ∧ zl n ≤ k + 1) ∧ (-(K : Int) ≤ e ∧ e ≤ (K : Int) + 32 * ((k : Int) + 1)) ∧ (-(K : Int) ≤ f ∧ f ≤ (K : Int) + 32 * ((k : Int) + 1)) ∧ (ok = true → DvT K k m e ∧ DvT K k n f) ∧ dcm m e n f ≤ 0 ∧ Below w.heap.size w w'

theorem millIT_any (b b' : Bool) (l l' : List Nat) (k K : Nat) (A A' : Option Addr) (p c p' c' : Nat) (e e' : Int) (w : World) (h : Sl w A p c l) (h' : Sl w A' p' c' l') (hk : k ≤ 1000) (hK : K ≤ 1000) (h1 : -9223372036854775808 ≤ e) (h2 : e ≤ 9223372036854775807) (h3 : -9223372036854775808 ≤ e') (h4 : e' ≤ 9223372036854775807) :
  Calls Tryz.prog 20 #[.agg #[.bool b, .slice A p c, .int .i64 e, .bool b', .slice A' p' c', .int .i64 e'], .int .i64 (k : Int), .int .i64 (K : Int)] w (RetMillIT w k K):=by
 have H1:=Hd9 (fun W (hW : Below w.heap.size w W) => millDT_any b l k K A p c e W (h.mono hW) (by omega) (by omega) h1 h2)
 have H2:=Hd9 (fun W (hW : Below w.heap.size w W) => millDT_any b' l' k K A' p' c' e' W (h'.mono hW) (by omega) (by omega) h3 h4)
 clear h h' h1 h2 h3 h4
 go_enter Tryz.func20, Tryz.ntmps20
 go_wp2_with fail
 have L:=(((Lq.mk0 w).varI (w.heap.size) (by simp) b A p c e b' A' p' c' e').varI (w.heap.size + 1) (by simp) false none 0 0 0 false none 0 0 0)
 obtain ⟨c00,c01,c02,c03,c04,c05⟩:=L.b0.a6
 obtain ⟨c10,c11,c12,c13,c14,c15⟩:=L.tl.b0.a6
 (try go_wp2_with fail)
 refine (H1.out _ L.below).mono ?_
 rintro e w1 ⟨v1, ok1, m, me, rfl, id, lm, lm2, lm3, dm, be⟩
 clear c00 c01 c02 c03 c04 c05 c10 c11 c12 c13 c14 c15
 obtain ⟨A1, c1, rfl, _, in9⟩:=id.form
 replace L:=(L.step be).n in9
 clear be id in9
 have hlg:=L.b0.lt
 replace L:=L.varD w1.heap.size rfl (ng m) A1 (zl m) c1 me
 obtain ⟨c00,c01,c02⟩:=L.b0.a3
 obtain ⟨c20,c21,c22,c23,c24,c25⟩:=L.tl.tl.b0.a6
 go_wp2_with fail
 obtain ⟨g, hg⟩:=nm9 (w1.heap.size)
 rw [hg] at L hlg c00 c01 c02 ⊢
 clear hg
 clear c00 c01 c02 c20 c21 c22 c23 c24 c25
 refine (H2.out _ L.below).mono ?_
 rintro e w2 ⟨v2, ok2, n, ne, rfl, id, ln, ln2, ln3, dn, be⟩
 obtain ⟨A2, c2, rfl, _, in9⟩:=id.form
 replace L:=(L.step be).n in9
 clear be id in9
 have hlk9:=L.b0.lt
 replace L:=L.varD w2.heap.size rfl (ng n) A2 (zl n) c2 ne
 obtain ⟨x, hx⟩:=nm9 (dcm m me n ne)
 have hc:=fun v u W h1 h2 => rcmp8_any m me n ne v u W h1 h2 (by omega) (by omega) (by omega) (by omega)
 have hx2:=hx
 unfold dcm at hx2
 rw [hx2] at hc
 have HC:=Hd9 hc
 clear hc hx2
 obtain ⟨c00,c01,c02⟩:=L.b0.a3
 obtain ⟨c10,c11,c12⟩:=L.tl.b0.a3
 go_wp2_with fail
 obtain ⟨g2, hg⟩:=nm9 (w2.heap.size)
 rw [hg] at L hlk9 c00 c01 c02 ⊢
 clear hg
 refine (HC.out _ _ _ (isD_n (s:=.slice A1 (zl m) c1) (L.getN (by simp))) (isD_n (s:=.slice A2 (zl n) c2) (L.getN (by simp)))).mono ?_
 rintro e w3 ⟨rfl, be⟩
 clear c00 c01 c02 c10 c11 c12
 replace L:=L.step be
 clear be
 have n1 : g2 ≠ g:=by omega
 have n2 : w.heap.size + 1 ≠ g:=by omega
 have n3 : w.heap.size + 1 ≠ g2:=by omega
 have n4 : w.heap.size ≠ g:=by omega
 have n5 : w.heap.size ≠ g2:=by omega
 by_cases q : 0 < x
 ·have b1 : decide (0 < x) = true:=decide_eq_true q
  obtain ⟨c00,c01,c02⟩:=L.b0.a3
  obtain ⟨f00,f01,f02⟩:=L.b0.f3
  obtain ⟨c10,c11,c12⟩:=L.tl.b0.a3
  obtain ⟨f10,f11,f12⟩:=L.tl.b0.f3
  have p1:=(L.swap.putD (by omega) (by simp [n1, n2, n3, n4, n5]) (ng n) A2 (zl n) c2 ne)
  have p2:=(p1.swap.putD (by omega) (by simp [n1, n2, n3, n4, n5, Ne.symm n1]) (ng m) A1 (zl m) c1 me)
  obtain ⟨x10,x11,x12⟩:=p1.b0.a3
  obtain ⟨x20,x21,x22⟩:=p1.tl.b0.a3
  obtain ⟨y20,y21,y22⟩:=p1.tl.b0.f3
  obtain ⟨x30,x31,x32⟩:=p2.b0.a3
  obtain ⟨x40,x41,x42⟩:=p2.tl.b0.a3
  replace L:=p2.pull2
  obtain ⟨z0,z1,z2,z3,z4,z5⟩:=L.b0.f6
  clear p1 p2
  unfold put3 at *
  have hxs : dcm n ne m me ≤ 0:=by rw [dcm_swap m me n ne, hx]; omega
  cases ok1
  ·skip
   obtain ⟨c00,c01,c02,c03,c04,c05⟩:=L.b0.a6
   obtain ⟨f00,f01,f02,f03,f04,f05⟩:=L.b0.f6
   obtain ⟨c10,c11,c12⟩:=L.tl.b0.a3
   obtain ⟨c20,c21,c22⟩:=L.tl.tl.b0.a3
   go_wp2_with fail
   have LP:=L.putI (by omega) (by simp [n1, n2, n3, n4, n5, Ne.symm n2, Ne.symm n3]) (ng n) A2 (zl n) c2 ne (ng m) A1 (zl m) c1 me
   obtain ⟨k0,k1,k2,k3,k4,k5⟩:=LP.b0.a6
   unfold put6 at k0 k1 k2 k3 k4 k5
   exact bodyPost_ret (v:=.tuple #[.agg #[.bool (ng n), .slice A2 (zl n) c2, .int .i64 ne, .bool (ng m), .slice A1 (zl m) c1, .int .i64 me], .bool false]) (by simp [results, Tryz.results20, go_sem, k0, k1, k2, k3, k4, k5]) rfl ⟨_, _, _, _, _, _, rfl, isI_n (LP.getN (by simp)) (LP.getN (by simp)), ⟨ln, lm⟩, ⟨by omega, by omega⟩, ⟨by omega, by omega⟩, fun h => (by cases h), hxs, LP.below⟩
  ·skip
   obtain ⟨c00,c01,c02,c03,c04,c05⟩:=L.b0.a6
   obtain ⟨f00,f01,f02,f03,f04,f05⟩:=L.b0.f6
   obtain ⟨c10,c11,c12⟩:=L.tl.b0.a3
   obtain ⟨c20,c21,c22⟩:=L.tl.tl.b0.a3
   go_wp2_with fail
   have LP:=L.putI (by omega) (by simp [n1, n2, n3, n4, n5, Ne.symm n2, Ne.symm n3]) (ng n) A2 (zl n) c2 ne (ng m) A1 (zl m) c1 me
   obtain ⟨k0,k1,k2,k3,k4,k5⟩:=LP.b0.a6
   unfold put6 at k0 k1 k2 k3 k4 k5
   exact bodyPost_ret (v:=.tuple #[.agg #[.bool (ng n), .slice A2 (zl n) c2, .int .i64 ne, .bool (ng m), .slice A1 (zl m) c1, .int .i64 me], .bool ok2]) (by simp [results, Tryz.results20, go_sem, k0, k1, k2, k3, k4, k5]) rfl ⟨_, _, _, _, _, _, rfl, isI_n (LP.getN (by simp)) (LP.getN (by simp)), ⟨ln, lm⟩, ⟨by omega, by omega⟩, ⟨by omega, by omega⟩, fun h => ⟨dn h, dm (by first | trivial | rfl)⟩, hxs, LP.below⟩
 ·have b1 : decide (0 < x) = false:=decide_eq_false q
  replace L:=L.pull2
  cases ok1
  ·skip
   obtain ⟨c00,c01,c02,c03,c04,c05⟩:=L.b0.a6
   obtain ⟨f00,f01,f02,f03,f04,f05⟩:=L.b0.f6
   obtain ⟨c10,c11,c12⟩:=L.tl.b0.a3
   obtain ⟨c20,c21,c22⟩:=L.tl.tl.b0.a3
   go_wp2_with fail
   have LP:=L.putI (by omega) (by simp [n1, n2, n3, n4, n5, Ne.symm n2, Ne.symm n3]) (ng m) A1 (zl m) c1 me (ng n) A2 (zl n) c2 ne
   obtain ⟨k0,k1,k2,k3,k4,k5⟩:=LP.b0.a6
   unfold put6 at k0 k1 k2 k3 k4 k5
   exact bodyPost_ret (v:=.tuple #[.agg #[.bool (ng m), .slice A1 (zl m) c1, .int .i64 me, .bool (ng n), .slice A2 (zl n) c2, .int .i64 ne], .bool false]) (by simp [results, Tryz.results20, go_sem, k0, k1, k2, k3, k4, k5]) rfl ⟨_, _, _, _, _, _, rfl, isI_n (LP.getN (by simp)) (LP.getN (by simp)), ⟨lm, ln⟩, ⟨by omega, by omega⟩, ⟨by omega, by omega⟩, fun h => (by cases h), (by rw [hx]; omega), LP.below⟩
  ·skip
   obtain ⟨c00,c01,c02,c03,c04,c05⟩:=L.b0.a6
   obtain ⟨f00,f01,f02,f03,f04,f05⟩:=L.b0.f6
   obtain ⟨c10,c11,c12⟩:=L.tl.b0.a3
   obtain ⟨c20,c21,c22⟩:=L.tl.tl.b0.a3
   go_wp2_with fail
   have LP:=L.putI (by omega) (by simp [n1, n2, n3, n4, n5, Ne.symm n2, Ne.symm n3]) (ng m) A1 (zl m) c1 me (ng n) A2 (zl n) c2 ne
   obtain ⟨k0,k1,k2,k3,k4,k5⟩:=LP.b0.a6
   unfold put6 at k0 k1 k2 k3 k4 k5
   exact bodyPost_ret (v:=.tuple #[.agg #[.bool (ng m), .slice A1 (zl m) c1, .int .i64 me, .bool (ng n), .slice A2 (zl n) c2, .int .i64 ne], .bool ok2]) (by simp [results, Tryz.results20, go_sem, k0, k1, k2, k3, k4, k5]) rfl ⟨_, _, _, _, _, _, rfl, isI_n (LP.getN (by simp)) (LP.getN (by simp)), ⟨lm, ln⟩, ⟨by omega, by omega⟩, ⟨by omega, by omega⟩, fun h => ⟨dm (by first | trivial | rfl), dn h⟩, (by rw [hx]; omega), LP.below⟩
structure EndT (m e : Int) : Prop where
 v : DvT 60 2 m e
 nn : ng m = false
 z : zl m ≤ 3
 e1 : -60 ≤ e
 e2 : e ≤ 156
structure ArgPT (m e n f : Int) : Prop where
 lo : EndT m e
 hi : EndT n f
 le : dq m e ≤ dq n f
structure ArgT (m e n f : Int) : Prop where
 vm : DvT 60 2 m e
 vn : DvT 60 2 n f
 pm : 0 < m
 le : dq m e ≤ dq n f
 zm : zl m ≤ 3
 zn : zl n ≤ 3
 em : -60 ≤ e ∧ e ≤ 156
 en : -60 ≤ f ∧ f ≤ 156
theorem ArgPT.pos {m e n f : Int} (h : ArgPT m e n f) (hm : 0 < m) : ArgT m e n f:=⟨h.lo.v, h.hi.v, hm, h.le, h.lo.z, h.hi.z, ⟨h.lo.e1, h.lo.e2⟩, ⟨h.hi.e1, h.hi.e2⟩⟩
def RetArgT (w : World) (en : Ending) (w' : World) : Prop:=∃ v ok m e n f, en = .returned (.tuple #[v, .bool ok]) ∧ IsI w' v m e n f ∧ Below w.heap.size w w' ∧ (ok = true → ArgT m e n f)

theorem s15argT_any (b b' : Bool) (l l' : List Nat) (A A' : Option Addr) (p c p' c' : Nat) (e0 e1 : Int) (w : World) (h : Sl w A p c l) (h' : Sl w A' p' c' l') (h1 : -9223372036854775808 ≤ e0) (h2 : e0 ≤ 9223372036854775807) (h3 : -9223372036854775808 ≤ e1) (h4 : e1 ≤ 9223372036854775807) :
    Calls Tryz.prog 12 #[.agg #[.bool b, .slice A p c, .int .i64 e0, .bool b', .slice A' p' c', .int .i64 e1]] w (RetArgT w):=by
  have H0:=Hd9 (fun W (hW : Below w.heap.size w W) => millIT_any b b' l l' 2 60 A A' p c p' c' e0 e1 W (h.mono hW) (h'.mono hW) (by omega) (by omega) h1 h2 h3 h4)
  clear h h' h1 h2 h3 h4
  go_enter Tryz.func12, Tryz.ntmps12
  go_wp2_with fail
  have L:=(((Lq.mk0 w).varI (w.heap.size) (by simp) b A p c e0 b' A' p' c' e1).varI (w.heap.size + 1) (by simp) false none 0 0 0 false none 0 0 0)
  obtain ⟨c10,c11,c12,c13,c14,c15⟩:=L.tl.b0.a6
  (try go_wp2_with fail)
  refine (H0.out _ L.below).mono ?_
  rintro e w1 ⟨vv, ok, m, e, n, f, rfl, ii, zz, be1, bf1, hdv, hcm, be⟩
  clear c10 c11 c12 c13 c14 c15
  obtain ⟨A6, c6, B6, d6, rfl, ia, ib⟩:=ii.form
  replace L:=((L.step be).n ib).n ia
  clear be ii ia ib H0
  have hl0:=L.b0.lt
  have hl1:=L.tl.b0.lt
  replace L:=L.varI w1.heap.size rfl (ng m) A6 (zl m) c6 e (ng n) B6 (zl n) d6 f
  have HA:=Hd9 (fun h : ok = true => And.intro (hdv h) (And.intro zz (And.intro be1 bf1)))
  clear hdv hcm zz be1 bf1
  cases ok
  · clear hl0 hl1
    obtain ⟨c00,c01,c02,c03,c04,c05⟩:=L.b0.a6
    have LS:=L.subx (ns':=[(.slice A6 (zl m) c6, m.natAbs), (.slice B6 (zl n) d6, n.natAbs)]) (bs':=[(w.heap.size + 1, 28, #[.bool false, .slice none 0 0, .int .i64 0, .bool false, .slice none 0 0, .int .i64 0])]) (by simp) (by simp)
    obtain ⟨s0,s1,s2,s3,s4,s5⟩:=LS.b0.a6
    obtain ⟨r0,r1,r2,r3,r4,r5⟩:=LS.b0.f6
    go_wp2_with fail
    clear L
    have L:=LS
    have LP:=L.putI (by omega) (by simp) (ng m) A6 (zl m) c6 e (ng n) B6 (zl n) d6 f
    obtain ⟨k0,k1,k2,k3,k4,k5⟩:=LP.b0.a6
    unfold put6 at k0 k1 k2 k3 k4 k5
    exact bodyPost_ret (v:=.tuple #[.agg #[.bool (ng m), .slice A6 (zl m) c6, .int .i64 e, .bool (ng n), .slice B6 (zl n) d6, .int .i64 f], .bool false]) (by simp [results, Tryz.results12, go_sem, k0, k1, k2, k3, k4, k5]) rfl ⟨_, _, _, _, _, _, rfl, isI_n (LP.getN (by simp)) (LP.getN (by simp)), LP.below, fun h => by cases h⟩
  · obtain ⟨⟨dv1, dv2⟩, ⟨z1, z2⟩, be1, bf1⟩:=HA.out rfl
    clear HA
    obtain ⟨c00,c01,c02,c03,c04,c05⟩:=L.b0.a6
    go_upto_region 4 with fail
    clear c00 c01 c02 c03 c04 c05
    obtain ⟨g6, hg6⟩:=nm9 (w1.heap.size)
    rw [hg6] at L hl0 hl1 ⊢
    clear hg6
    have L8:=L.subx (ns':=[(.slice A6 (zl m) c6, m.natAbs), (.slice B6 (zl n) d6, n.natAbs)]) (bs':=[(g6, 28, #[.bool (ng m), .slice A6 (zl m) c6, .int .i64 e, .bool (ng n), .slice B6 (zl n) d6, .int .i64 f]), (w.heap.size + 1, 28, #[.bool false, .slice none 0 0, .int .i64 0, .bool false, .slice none 0 0, .int .i64 0])]) (by simp) (by simp)
    clear L
    have L:=L8
    clear L8
    have hgr : w.heap.size + 1 < g6:=by omega
    have hmn : ∀ (x y : Int), DvT 60 2 x y → ng x = true → zl x ≤ 3 → -60 ≤ y → y ≤ 156 → EndT (-x) y:=fun x y q1 q2 q3 q4 q5 => ⟨dvt_opp q1, by
      unfold ng at *
      have:=of_decide_eq_true q2
      exact decide_eq_false (by omega), by rw [zl_neg]; exact q3, q4, q5⟩
    have HM:=Hd9 hmn
    clear hmn
    obtain ⟨V0, hV0, L9⟩:=L.name
    rw [hV0]
    clear hV0 L
    have L:=L9
    clear L9
    obtain ⟨a0, ha0⟩:=nm9 (ng m)
    have HN:=Hd9 ha0
    clear ha0
    obtain ⟨c00,c01,c02,c03,c04,c05⟩:=L.b0.a6
    have hnx:=HN.out
    rw [hnx] at c00
    clear hnx
    go_upto_if 17 with fail
    clear c00 c01 c02 c03 c04 c05
    go_cut [] from 18 to 22 (fun wx => ∃ (x9 : Int) (A9 : Option Addr) (c9 : Nat), Lq w wx [(.slice A9 (zl x9) c9, x9.natAbs), (.slice B6 (zl n) d6, n.natAbs)] [] [] [(g6, 28, #[.bool (ng x9), .slice A9 (zl x9) c9, .int .i64 e, .bool (ng n), .slice B6 (zl n) d6, .int .i64 f]), (w.heap.size + 1, 28, #[.bool false, .slice none 0 0, .int .i64 0, .bool false, .slice none 0 0, .int .i64 0])] ∧ Hid (EndT x9 e))
    case first =>
      cases a0
      · have HE:=Hd9 (EndT.mk dv1 HN.out z1 (by omega) (by omega))
        go_wp2_with fail
        go_meet
        exact ⟨m, A6, c6, L, HE⟩
      · have HE:=Hd9 (HM.out _ _ dv1 HN.out z1 (by omega) (by omega))
        have G1:=Hd9 (fun x W h => rneg8_any m e x W h (by omega))
        obtain ⟨c00,c01,c02,c03,c04,c05⟩:=L.b0.a6
        obtain ⟨f00,f01,f02,f03,f04,f05⟩:=L.b0.f6
        go_wp2_with fail
        refine (G1.out _ _ (isD_n (m:=m) (e:=e) (s:=.slice A6 (zl m) c6) (L.getN (by simp)))).mono ?_
        rintro e9 w2 ⟨vv, rfl, id, be⟩
        clear c00 f00 c01 f01 c02 f02 c03 f03 c04 f04 c05 f05
        obtain ⟨A9, c9, rfl, _, in9⟩:=id.form
        replace L:=(L.step be).n in9
        clear be id in9
        obtain ⟨x9, hx9⟩:=nm9 (-m)
        rw [hx9] at L HE ⊢
        clear hx9
        obtain ⟨c00,c01,c02,c03,c04,c05⟩:=L.b0.a6
        obtain ⟨f00,f01,f02,f03,f04,f05⟩:=L.b0.f6
        have P:=L.putLo (by omega) (by simp; omega) (ng x9) A9 (zl x9) c9 e
        go_wp2_with fail
        go_meet
        exact ⟨x9, A9, c9, P.subx (by simp) (by simp), HE⟩
    case rest =>
      clear L HN
      obtain ⟨m, A6, c6, L, HE0⟩:=hcut
      generalize wc = wd0 at *
      obtain ⟨a1, ha1⟩:=nm9 (ng n)
      have HN:=Hd9 ha1
      clear ha1
      obtain ⟨c00,c01,c02,c03,c04,c05⟩:=L.b0.a6
      have hnx:=HN.out
      rw [hnx] at c03
      clear hnx
      go_upto_if 25 with fail
      clear c00 c01 c02 c03 c04 c05
      go_cut [] from 26 to 30 (fun wx => ∃ (x9 : Int) (A9 : Option Addr) (c9 : Nat), Lq w wx [(.slice A6 (zl m) c6, m.natAbs), (.slice A9 (zl x9) c9, x9.natAbs)] [] [] [(g6, 28, #[.bool (ng m), .slice A6 (zl m) c6, .int .i64 e, .bool (ng x9), .slice A9 (zl x9) c9, .int .i64 f]), (w.heap.size + 1, 28, #[.bool false, .slice none 0 0, .int .i64 0, .bool false, .slice none 0 0, .int .i64 0])] ∧ Hid (EndT x9 f))
      case first =>
        cases a1
        · have HE:=Hd9 (EndT.mk dv2 HN.out z2 (by omega) (by omega))
          go_wp2_with fail
          go_meet
          exact ⟨n, B6, d6, L, HE⟩
        · have HE:=Hd9 (HM.out _ _ dv2 HN.out z2 (by omega) (by omega))
          have G1:=Hd9 (fun x W h => rneg8_any n f x W h (by omega))
          obtain ⟨c00,c01,c02,c03,c04,c05⟩:=L.b0.a6
          obtain ⟨f00,f01,f02,f03,f04,f05⟩:=L.b0.f6
          go_wp2_with fail
          refine (G1.out _ _ (isD_n (m:=n) (e:=f) (s:=.slice B6 (zl n) d6) (L.getN (by simp)))).mono ?_
          rintro e9 w7 ⟨vv, rfl, id, be⟩
          clear c00 f00 c01 f01 c02 f02 c03 f03 c04 f04 c05 f05
          obtain ⟨A9, c9, rfl, _, in9⟩:=id.form
          replace L:=(L.step be).n in9
          clear be id in9
          obtain ⟨x9, hx9⟩:=nm9 (-n)
          rw [hx9] at L HE ⊢
          clear hx9
          obtain ⟨c00,c01,c02,c03,c04,c05⟩:=L.b0.a6
          obtain ⟨f00,f01,f02,f03,f04,f05⟩:=L.b0.f6
          have P:=L.putHi (by omega) (by simp; omega) (ng x9) A9 (zl x9) c9 f
          go_wp2_with fail
          go_meet
          exact ⟨x9, A9, c9, P.subx (by simp) (by simp), HE⟩
      case rest =>
        clear L HN
        obtain ⟨n, B6, d6, L, HE1⟩:=hcut
        generalize wc = wd1 at *
        have hE0:=HE0.out
        have hE1:=HE1.out
        have z1:=hE0.z
        have z2:=hE1.z
        have a1:=hE0.e1
        have a2:=hE0.e2
        have a3:=hE1.e1
        have a4:=hE1.e2
        have g1:=fun x y W h j => rcmp8_any m e n f x y W h j (by omega) (by omega) (by omega) (by omega)
        rw [show cmpI (m * 2 ^ (e - min e f).toNat) (n * 2 ^ (f - min e f).toNat) = dcm m e n f from rfl] at g1
        have hle:=dcm_le m e n f
        obtain ⟨cm, hcm⟩:=nm9 (dcm m e n f)
        rw [hcm] at g1 hle
        have G1:=Hd9 g1
        have hP1 : cm ≤ 0 → ArgPT m e n f:=fun h => ⟨hE0, hE1, hle.1 h⟩
        have hP2 : 0 < cm → ArgPT n f m e:=fun h => ⟨hE1, hE0, Rat.le_of_lt (Rat.not_le.1 fun h9 => by have:=hle.2 h9; omega)⟩
        have HP1:=Hd9 hP1
        have HP2:=Hd9 hP2
        clear g1 hle hcm hP1 hP2 hE0 hE1 z1 z2 a1 a2 a3 a4 HE0 HE1 dv1 dv2 be1 bf1
        obtain ⟨c00,c01,c02,c03,c04,c05⟩:=L.b0.a6
        (try go_wp2_with fail)
        refine (G1.out _ _ _ (isD_n (m:=m) (e:=e) (s:=.slice A6 (zl m) c6) (L.getN (by simp))) (isD_n (m:=n) (e:=f) (s:=.slice B6 (zl n) d6) (L.getN (by simp)))).mono ?_
        rintro e w12 ⟨rfl, be⟩
        clear c00 c01 c02 c03 c04 c05
        replace L:=L.step be
        clear be
        go_upto_if 35 with fail
        go_cut [] from 36 to 42 (fun wx => ∃ (m e n f : Int) (A B : Option Addr) (c d : Nat), Lq w wx [(.slice A (zl m) c, m.natAbs), (.slice B (zl n) d, n.natAbs)] [] [] [(g6, 28, #[.bool (ng m), .slice A (zl m) c, .int .i64 e, .bool (ng n), .slice B (zl n) d, .int .i64 f]), (w.heap.size + 1, 28, #[.bool false, .slice none 0 0, .int .i64 0, .bool false, .slice none 0 0, .int .i64 0])] ∧ Hid (ArgPT m e n f))
        case first =>
          rcases Int.lt_or_le 0 cm with hcm | hcm
          · have d1 : decide (0 < cm) = true:=decide_eq_true hcm
            have HQ:=Hd9 (HP2.out hcm)
            obtain ⟨c00,c01,c02,c03,c04,c05⟩:=L.b0.a6
            obtain ⟨f00,f01,f02,f03,f04,f05⟩:=L.b0.f6
            have P1:=L.putLo (by omega) (by simp; omega) (ng n) B6 (zl n) d6 f
            obtain ⟨p0,p1,p2,p3,p4,p5⟩:=P1.b0.a6
            obtain ⟨q0,q1,q2,q3,q4,q5⟩:=P1.b0.f6
            have P:=P1.putHi (by omega) (by simp; omega) (ng m) A6 (zl m) c6 e
            go_wp2_with fail
            go_meet
            exact ⟨n, f, m, e, B6, A6, d6, c6, P.subx (by simp) (by simp), HQ⟩
          · have d1 : decide (0 < cm) = false:=decide_eq_false (by omega)
            have HQ:=Hd9 (HP1.out hcm)
            go_wp2_with fail
            go_meet
            exact ⟨m, e, n, f, A6, B6, c6, d6, L.subx (by simp) (by simp), HQ⟩
        case rest =>
          clear L HP1 HP2 G1
          obtain ⟨m, e, n, f, A, B, c, d, L, HQ⟩:=hcut
          generalize wc = wd9 at *
          have hz:=HQ.out.lo.z
          have g1:=fun x W h => rsign8_any m e x W h (by omega)
          obtain ⟨s, hs⟩:=nm9 (cmpI m 0)
          have hsm : 0 < s → 0 < m:=by
            rw [← hs]
            intro h
            unfold cmpI at h
            (repeat' split at h) <;> omega
          rw [hs] at g1
          have G1:=Hd9 g1
          have HSM:=Hd9 hsm
          clear g1 hs hsm hz
          obtain ⟨c00,c01,c02,c03,c04,c05⟩:=L.b0.a6
          go_upto_region 10 with fail
          clear c00 c01 c02 c03 c04 c05
          replace L:=L.swap.drew
          go_cut [3] from 42 to 47 (fun s3 wx => s3 = .bool (decide (0 < s)) ∧ Lq w wx [(.slice A (zl m) c, m.natAbs), (.slice B (zl n) d, n.natAbs)] [] [] [(w.heap.size + 1, 28, #[.bool (ng m), .slice A (zl m) c, .int .i64 e, .bool (ng n), .slice B (zl n) d, .int .i64 f])])
          case first =>
            obtain ⟨c00,c01,c02,c03,c04,c05⟩:=L.b0.a6
            obtain ⟨f00,f01,f02,f03,f04,f05⟩:=L.b0.f6
            go_region_held3 (fun w' => w'.cell? ⟨g6, 0, none⟩ = some (.bool (ng m)) ∧ w'.cell? ⟨g6, 1, none⟩ = some (.slice A (zl m) c) ∧ w'.cell? ⟨g6, 2, none⟩ = some (.int .i64 e) ∧ w'.cell? ⟨g6, 3, none⟩ = some (.bool (ng n)) ∧ w'.cell? ⟨g6, 4, none⟩ = some (.slice B (zl n) d) ∧ w'.cell? ⟨g6, 5, none⟩ = some (.int .i64 f)) (first | (with_reducible exact ⟨L.tl.b0.c60, L.tl.b0.c61, L.tl.b0.c62, L.tl.b0.c63, L.tl.b0.c64, L.tl.b0.c65⟩) | (have LP:=L.putI (by omega) (by simp; omega) (ng m) A (zl m) c e (ng n) B (zl n) d f; unfold put6 at LP; with_reducible exact ⟨LP.tl.b0.c60, LP.tl.b0.c61, LP.tl.b0.c62, LP.tl.b0.c63, LP.tl.b0.c64, LP.tl.b0.c65⟩) | exact ⟨L.tl.b0.c60, L.tl.b0.c61, L.tl.b0.c62, L.tl.b0.c63, L.tl.b0.c64, L.tl.b0.c65⟩) (first | (go_at_call 45; (with_reducible refine (G1.out _ _ ?_).mono ?_); (· (first | (refine isD_n (L.getN ?_); ((repeat (first | (with_reducible exact mS) | apply mT)))) | (have LP:=L.putI (by omega) (by simp; omega) (ng m) A (zl m) c e (ng n) B (zl n) d f; unfold put6 at LP; refine isD_n (LP.getN ?_); ((repeat (first | (with_reducible exact mS) | apply mT)))))); rintro e9 wh ⟨rfl, be⟩; (first | (replace L:=L.step be) | (have LP:=L.putI (by omega) (by simp; omega) (ng m) A (zl m) c e (ng n) B (zl n) d f; unfold put6 at LP; replace L:=LP.step be)); obtain ⟨x0,x1,x2,x3,x4,x5⟩:=L.b0.f6; obtain ⟨y0,y1,y2,y3,y4,y5⟩:=L.b0.a6))
            all_goals
              go_wp2_with fail
              go_meet
              first
              | with_reducible exact ⟨rfl, L.sub1 (by simp) (by simp)⟩
              | (have LP:=L.putI (by omega) (by simp; omega) (ng m) A (zl m) c e (ng n) B (zl n) d f
                 unfold put6 at LP
                 with_reducible exact ⟨rfl, LP.sub1 (by simp) (by simp)⟩)
          case rest =>
            clear L
            obtain ⟨rfl, L⟩:=hcut
            generalize wc = wd8 at *
            obtain ⟨c00,c01,c02,c03,c04,c05⟩:=L.b0.a6
            obtain ⟨f00,f01,f02,f03,f04,f05⟩:=L.b0.f6
            go_wp2_with fail
            exact bodyPost_ret (v:=.tuple #[.agg #[.bool (ng m), .slice A (zl m) c, .int .i64 e, .bool (ng n), .slice B (zl n) d, .int .i64 f], .bool (decide (0 < s))]) (by simp [results, Tryz.results12, go_sem, c00, c01, c02, c03, c04, c05]) rfl ⟨_, _, m, e, n, f, rfl, isI_n (L.getN (by simp)) (L.getN (by simp)), L.below, fun h => HQ.out.pos (HSM.out (of_decide_eq_true h))⟩

theorem RetLa.ab {w w' : World} {x : Rat} {j : Nat} {en : Ending} (h : RetLa w x j en w') : ∃ a b, (LnB j a b x ∧ AbP a 1000 ∧ AbP b 1000) ∧ RetI6 w (mkM a (-(j : Int))) (mkE a (-(j : Int))) (mkM b (-(j : Int))) (mkE b (-(j : Int))) en w':=by
 obtain ⟨a, b, h1, h2⟩:=h
 exact ⟨a, b, h2, h1⟩
theorem spK_bd {m e a b : Int} (hm : 0 < m) (ha : dq 1 a ≤ dq m e) (hb : dq m e ≤ dq 1 b) : a ≤ spK m e ∧ spK m e ≤ b:=by
 obtain ⟨h1, h2⟩:=sp_bd hm
 have hs:=sp_sum m e
 have e1 : dq m e = dq m (spE m) * dq 1 (spK m e):=by
  rw [← dq_mul, Int.mul_one]
  congr 1
  omega
 obtain ⟨K, hK⟩:=nm9 (spK m e)
 rw [hK] at e1 ⊢
 rw [e1] at ha hb
 have v1 : dq 1 1 = 2:=by decide +kernel
 have pK:=dq_pos K
 have pa:=dq_pos a
 have pb:=dq_pos b
 constructor
 ·refine Int.not_lt.1 fun h => ?_
  have h3:=dq_anti (show K + 1 ≤ a by omega)
  rw [dq_add1, v1] at h3
  have h4:=Rat.mul_lt_mul_of_pos_right h2 pK
  generalize dq m (spE m) * dq 1 K = x at *
  generalize dq 1 K = y at *
  generalize dq 1 a = z at *
  clear h1 h2 e1
  grind
 ·refine Int.not_lt.1 fun h => ?_
  have h3:=dq_anti (show b + 1 ≤ K by omega)
  rw [dq_add1, v1] at h3
  have h4:=Rat.mul_le_mul_of_nonneg_right h1 (Rat.le_of_lt pK)
  generalize dq m (spE m) * dq 1 K = x at *
  generalize dq 1 K = y at *
  generalize dq 1 b = z at *
  clear h1 h2 e1
  grind
theorem ArgT.toL {m e n f : Int} (h : ArgT m e n f) : ArgL m e n f:=⟨h.vm.1, h.vn.1, h.pm, h.le, h.zm, h.zn, h.em, h.en⟩
theorem dq_low {m e a : Int} (hm : 0 < m) (he : a ≤ e) : dq 1 a ≤ dq m e:=Rat.le_trans (dq_anti he) ((dq_le_iff 1 m e).2 (by omega))
structure ArgC (m e n f : Int) : Prop where
 vm : Dv m e
 vn : Dv n f
 pm : 0 < m
 pn : 0 < n
 le : dq m e ≤ dq n f
 zm : zl m ≤ 3
 zn : zl n ≤ 60
 em : -60 ≤ e ∧ e ≤ 156
 en : -3000 ≤ f ∧ f ≤ 3000
 km : (spK m e).natAbs ≤ 3000
 kn : (spK n f).natAbs ≤ 3000
 sm : smallB m e n f = true
theorem ArgC.mk9 {m e n f N F : Int} (h : ArgL m e n f) (hv : Dv N F) (zN : zl N ≤ 60) (eN : -3000 ≤ F ∧ F ≤ 3000) (h1 : dcm m e N F ≤ 0) (h2 : dq N F ≤ dq n f) : ArgC m e N F:=by
 have hle:=(dcm_le _ _ _ _).1 h1
 have hp:=(dq_gt0 m e).2 h.pm
 have hN : 0 < N:=(dq_gt0 N F).1 (by
  generalize dq m e = x at *
  generalize dq N F = y at *
  clear h1 h2
  grind)
 have hi:=Rat.le_trans h2 h.hi256
 have lo : dq 1 (-60) ≤ dq N F:=Rat.le_trans (dq_low h.pm h.em.1) hle
 have kb:=spK_bd hN lo hi
 have tN : topZ N F ≤ 2048:=(top_iff (by omega)).2 (by
  have g1:=dq_anti (show (256 : Int) + 1 ≤ 2048 by omega)
  rw [dq_add1, show dq 1 1 = 2 by decide +kernel] at g1
  have g2:=dq_pos 256
  have g3:=dq_pos (-60)
  generalize dq 1 2048 = a at *
  generalize dq 1 256 = b at *
  generalize dq 1 (-60) = c at *
  generalize dq N F = x at *
  clear kb hle hp h2
  constructor <;> grind)
 have hz:=h.zm
 have he:=h.em
 refine ⟨h.vm, hv, h.pm, hN, hle, hz, zN, he, eN, h.sp.1, by omega, small14 (by omega) zN (by omega) (by omega) h1 (top_ub (z:=3) hz (by omega) (by omega)) tN⟩
theorem far15 {m e k M E : Int} (hm : 0 < m) (hz : zl m ≤ 3) (he : -60 ≤ e ∧ e ≤ 156) (hd : DvT 60 2 m e) (hk : -1899 ≤ k ∧ k ≤ 1899) (hM : mkM m (e + k) = M) (hE : mkE m (e + k) = E) :
  mkR m (e + k) = 0 ∧ Dv M E ∧ 0 < M ∧ zl M ≤ 3 ∧ (-2000 ≤ E ∧ E ≤ 2200) ∧ (spK M E).natAbs ≤ 3000 ∧ smallB M E M E = true:=by
 subst hM hE
 have hr : mkR m (e + k) = 0:=mk_fits2 (by omega) (by omega) (by omega)
 have z1:=Nat.le_trans (zl_mk m (e + k)) hz
 have z2:=mkE_at hr hz
 have q:=dq_mk hr
 have hM : 0 < mkM m (e + k):=(dq_gt0 _ (mkE m (e + k))).1 (by rw [q]; exact (dq_gt0 _ _).2 hm)
 obtain ⟨_, _, a, b⟩:=sp_rng (m:=mkM m (e + k)) (e:=mkE m (e + k)) z1
 have hE : -2000 ≤ mkE m (e + k) ∧ mkE m (e + k) ≤ 2200:=by omega
 have ht : topZ (mkM m (e + k)) (mkE m (e + k)) ≤ 2048:=by
  have h1:=hd.2
  rw [top_iff (by omega)] at h1 ⊢
  rw [q]
  have e1 : dq m (e + k) = dq m e * dq 1 k:=by rw [← dq_mul, Int.mul_one]
  rw [e1]
  have p1:=dq_pos k
  have p2:=dq_anti (show ((60 : Nat) : Int) + 32 * ((2 : Nat) : Int) + k ≤ 2048 by omega)
  rw [dq_add1] at p2
  have p3:=Rat.mul_lt_mul_of_pos_right h1.2 p1
  have p4:=Rat.mul_pos ((dq_gt0 m e).2 hm) p1
  generalize dq m e * dq 1 k = x at *
  generalize dq 1 (((60 : Nat) : Int) + 32 * ((2 : Nat) : Int)) * dq 1 k = y at *
  generalize dq 1 2048 = z at *
  clear h1 e1
  constructor <;> grind
 exact ⟨hr, mk_ok hr, hM, z1, hE, by omega, small14 (by omega) (by omega) (by omega) (by omega) (by rw [dcm_self]; omega) ht ht⟩

theorem near15 (k : Nat) (a b a1 b1 a2 b2 : Int) (x1 x2 : Rat) (vx vl vh : Value) (w : World) (hk : k ≤ 130) (hxy : x1 ≤ x2) (pa : EnA k a x1) (pb : EnB k b x2) (za : AbP a (k + 19)) (zb : AbP b (k + 19)) (pl : LnB (k + 16) a1 b1 x1 ∧ AbP a1 1000 ∧ AbP b1 1000) (ph : LnB (k + 16) a2 b2 x2 ∧ AbP a2 1000 ∧ AbP b2 1000) (hx : IsI w vx (mkM a (-(k : Int))) (mkE a (-(k : Int))) (mkM b (-(k : Int))) (mkE b (-(k : Int)))) (hl : IsI w vl (mkM a1 (-((k + 16 : Nat) : Int))) (mkE a1 (-((k + 16 : Nat) : Int))) (mkM b1 (-((k + 16 : Nat) : Int))) (mkE b1 (-((k + 16 : Nat) : Int)))) (hh : IsI w vh (mkM a2 (-((k + 16 : Nat) : Int))) (mkE a2 (-((k + 16 : Nat) : Int))) (mkM b2 (-((k + 16 : Nat) : Int))) (mkE b2 (-((k + 16 : Nat) : Int)))) :
  Calls Tryz.prog 16 #[vx, vl, vh, .int .i64 (k : Int)] w (RetB w true):=by
 obtain ⟨c1, c2, c3, c4⟩:=near_ln pa pb pl.1 ph.1
 exact near_gen k a b a1 b1 a2 b2 vx vl vh w (by omega) ((dq_le_iff _ _ _).1 (ln_mono pa.1 pb.2 hxy)) (za.up (by omega)) (zb.up (by omega)) (pl.2.1.up (by omega)) (pl.2.2.up (by omega)) (ph.2.1.up (by omega)) (ph.2.2.up (by omega)) c1 c2 c3 c4 hx hl hh

section
open Go.ChangeShapes Go.WideShapes Go.ChangeAt

theorem open_slice8 {H : Type} {enc : TypeId × Value → H} {W : World} {base : Nat} {fuel : Nat} {v : Value} {x : DataW H × List MemPlace} (h : DataW.trod enc Tryz.prog W base (fun _ => true) true fuel 22 [v] = some x) : ∃ a n c l, v = .slice a n c ∧ Sl W a n c l:=by
 rcases open_ints Tryz.underlying22 Tryz.underlying148 (by kernel_rfl) h with ⟨hcs, _⟩ | ⟨x, l, c, zs, hcs, _, hl, hm, hz, _, hcell, hwz⟩
 ·exact ⟨none, 0, 0, [], by simpa using hcs, Sl.nil W⟩
 ·exact ⟨_, _, _, _, by simpa using hcs, sl_of_ints hl hm (by simpa using hz) hcell hwz⟩
end
section
open Go.ChangeShapes Go.WideShapes Go.ChangeAt

theorem array6 {a : Array Value} (h : a.size = 6) : ∃ x0 x1 x2 x3 x4 x5, a = #[x0, x1, x2, x3, x4, x5]:=by
 obtain ⟨l⟩:=a
 rcases l with _ | ⟨x0, _ | ⟨x1, _ | ⟨x2, _ | ⟨x3, _ | ⟨x4, _ | ⟨x5, _ | ⟨x6, l⟩⟩⟩⟩⟩⟩⟩ <;> first | exact ⟨_, _, _, _, _, _, rfl⟩ | (exfalso; simp at h)
theorem open_dy3 {H : Type} {enc : TypeId × Value → H} {W : World} {base n : Nat} {c0 c1 c2 : Value} {y : DataW H × List MemPlace} (h : DataW.trod enc Tryz.prog W base (fun _ => true) true n 26 [c0, c1, c2] = some y) :
  ∃ b A p c l e, c0 = .bool b ∧ c1 = .slice A p c ∧ c2 = .int .i64 e ∧ Sl W A p c l ∧ -9223372036854775808 ≤ e ∧ e ≤ 9223372036854775807:=by
 obtain ⟨y0, y1, n, _, _, h0, h1⟩:=trod_struct2 Tryz.underlying26 h
 have e0 : Tryz.prog.cellsOf 24 = 2:=by kernel_rfl
 have e1 : Tryz.prog.cellsOf 22 = 1:=by kernel_rfl
 have e3 : Tryz.prog.cellsOf 3 = 1:=by kernel_rfl
 have h0' : DataW.trod enc Tryz.prog W base (fun _ => true) true n 24 [c0, c1] = some y0:=by
  simpa [Value.cells, e0] using h0
 have h1' : DataW.trod enc Tryz.prog W base (fun _ => true) true n 3 [c2] = some y1:=by
  simpa [Value.cells, e0, e3] using h1
 obtain ⟨z0, z1, n2, _, _, g0, g1⟩:=trod_struct2 Tryz.underlying24 h0'
 have e2 : Tryz.prog.cellsOf 4 = 1:=by kernel_rfl
 have g0' : DataW.trod enc Tryz.prog W base (fun _ => true) true n2 4 [c0] = some z0:=by
  simpa [e2] using g0
 have g1' : DataW.trod enc Tryz.prog W base (fun _ => true) true n2 22 [c1] = some z1:=by
  simpa [e1, e2] using g1
 obtain ⟨b, hb, _⟩:=DataW.trod_bool Tryz.underlying4 g0'
 obtain rfl : c0 = .bool b:=by simpa using hb
 obtain ⟨A, n3, c3, l, rfl, s1⟩:=open_slice8 g1'
 obtain ⟨e, he, _, hw⟩:=DataW.trod_int Tryz.underlying3 h1'
 obtain rfl : c2 = .int .i64 e:=by simpa using he
 obtain ⟨k1, k2⟩:=bounds_i64 hw
 exact ⟨b, A, n3, c3, l, e, rfl, rfl, rfl, s1, k1, k2⟩
theorem open_iv {H : Type} {enc : TypeId × Value → H} {W : World} {r : Reach} {b0 base : Nat} {v : Value} {d : DataW H} {p : List MemPlace} (hv : Value.okWide Tryz.prog W r b0 28 v) (h : DataW.Trod enc Tryz.prog W base (fun _ => true) true 28 v d p) :
  ∃ b A n c l e b' A' n' c' l' e', v = .agg #[.bool b, .slice A n c, .int .i64 e, .bool b', .slice A' n' c', .int .i64 e'] ∧ (Sl W A n c l ∧ -9223372036854775808 ≤ e ∧ e ≤ 9223372036854775807) ∧ (Sl W A' n' c' l' ∧ -9223372036854775808 ≤ e' ∧ e' ≤ 9223372036854775807):=by
 obtain ⟨cs, rfl, hsz⟩:=okWide_struct Tryz.underlying28 hv
 obtain ⟨c0, c1, c2, c3, c4, c5, rfl⟩:=array6 (hsz.trans (show Tryz.prog.cellsOf 28 = 6 by kernel_rfl))
 obtain ⟨fuel, hf⟩:=h
 obtain ⟨y0, y1, n, _, _, h0, h1⟩:=trod_struct2 Tryz.underlying28 hf
 have e0 : Tryz.prog.cellsOf 26 = 3:=by kernel_rfl
 have h0' : DataW.trod enc Tryz.prog W base (fun _ => true) true n 26 [c0, c1, c2] = some y0:=by
  simpa [Value.cells, e0] using h0
 have h1' : DataW.trod enc Tryz.prog W base (fun _ => true) true n 26 [c3, c4, c5] = some y1:=by
  simpa [Value.cells, e0] using h1
 obtain ⟨b, A, n1, k, l, e, rfl, rfl, rfl, q1⟩:=open_dy3 h0'
 obtain ⟨b', A', n1', k', l', e', rfl, rfl, rfl, q2⟩:=open_dy3 h1'
 exact ⟨b, A, n1, k, l, e, b', A', n1', k', l', e', rfl, q1, q2⟩

end

end Go.Proofs.YtmgbjldogggpcaaGreatDoor
