/- Base texts, joined: RatP, Floor, GrPB, GrPD, GrP. -/
import Derived.Test.YtiddbhhhmeopeaaGreatDoorBaseDE7
import Derived.Test.YtiddbhhhmeopeaaGreatDoorBaseSE7
import Derived.Test.YtiddbhhhmeopeaaGreatDoorBaseIE7
import Derived.Test.YtiddbhhhmeopeaaGreatDoorBaseNE7
import Derived.Deep.RegionHeld3
import Derived.Deep.DrawnRows
import Derived.Test.YtiddbhhhmeopeaaGreatDoorRefDivModE7
import Derived.Deep.Cut
import Derived.Deep.CutRange
import Derived.Test.YtiddbhhhmeopeaaGreatDoorGrPAE7
import Derived.Test.YtiddbhhhmeopeaaGreatDoorBaseVE7
import Derived.Test.YtiddbhhhmeopeaaGreatDoorRefGrAE7
import Derived.Test.YtiddbhhhmeopeaaGreatDoorGrPCE7
import Derived.Test.YtiddbhhhmeopeaaGreatDoorRefGrBE7
/- The program's fractions: lowest, times, Make, Of, Sign, Neg, Mul, Cmp, Div. -/
namespace Go.Proofs.YtiddbhhhmeopeaaGreatDoor
set_option maxHeartbeats 64000000
open Go.RowKit
set_option linter.unusedVariables false
set_option linter.unusedSimpArgs false
set_option maxRecDepth 100000
attribute [local go_sem ↓] Go.wp_at_zero Go.wp_at_succ

theorem trimP_any (x : Nat) (v : Value) (w : World) (h : IsN w v x) (hx : len x ≤ 1000000) : Calls Tryz.prog 222 #[v] w (RetN w x):=by
 obtain ⟨A, n, c, rfl, hs⟩:=h
 have hl:=hs.len
 rw [length_dig] at hl
 have:=trim_any _ A n c w hs (by omega)
 rwa [trim_dig] at this
theorem Lq.swap3 {w0 w : World} {ns : List (Value × Nat)} {zs : List (Value × Int)} {qs : List (Value × Int × Nat)} {bs : List (Nat × TypeId × Array Value)} {p q r : Nat × TypeId × Array Value} (h : Lq w0 w ns zs qs (p :: q :: r :: bs)) : Lq w0 w ns zs qs (q :: r :: p :: bs):=
 ⟨h.below, h.ns, h.zs, h.qs, fun t ht => h.bs t (by simp only [List.mem_cons] at ht ⊢; rcases ht with h | h | h | h <;> simp [h])⟩
theorem isZ_nat {w : World} {s : Value} {d : Nat} (h : IsN w s d) : IsZ w (.agg #[.bool false, s]) (d : Int):=⟨s, by rw [ng_nat], by rw [Int.natAbs_natCast]; exact h⟩
theorem divInt_nat (n : Int) (m : Nat) (h : 0 < m) : (Rat.divInt n (m : Int)).num = sg (ng n) (n.natAbs / Nat.gcd n.natAbs m) ∧ (Rat.divInt n (m : Int)).den = m / Nat.gcd n.natAbs m:=by
 obtain ⟨e1, e2⟩:=divInt_pair n (m : Int) (by omega)
 rw [e1, e2, ng_nat, Int.natAbs_natCast]
 refine ⟨?_, rfl⟩
 cases ng n <;> rfl
theorem divInt_neg (n m : Int) : Rat.divInt (-n) (-m) = Rat.divInt n m:=Rat.neg_divInt_neg n m

theorem plow_any (n : Int) (m : Nat) (vn vm : Value) (w : World) (hn : IsZ w vn n) (hm : IsN w vm m) (ln : zl n ≤ 100000000) (lm : len m ≤ 100000000) (h0 : 0 < m) :
  Calls Tryz.prog 217 #[vn, vm] w (RetQ w (Rat.divInt n (m : Int))):=by
 obtain ⟨A, c, rfl, in1⟩:=hn.form
 obtain ⟨B, d, rfl⟩:=hm.form
 obtain ⟨e1, e2⟩:=divInt_nat n m h0
 unfold RetQ
 rw [e1, e2]
 have HL:=Hd9 (fun W h1 h2 => lowest_any n.natAbs m (.slice A (zl n) c) (.slice B (len m) d) W h1 h2 (Nat.le_trans ln (by omega)) (by omega) h0)
 have hlg : len (n.natAbs / Nat.gcd n.natAbs m) ≤ 100000000:=Nat.le_trans (len_mono (Nat.div_le_self _ _)) ln
 obtain ⟨x, hx⟩:=nm9 (n.natAbs / Nat.gcd n.natAbs m)
 obtain ⟨y, hy⟩:=nm9 (m / Nat.gcd n.natAbs m)
 rw [hx] at HL hlg ⊢
 rw [hy] at HL ⊢
 have L0:=((Lq.mk0 w).n in1).n hm
 have HS:=Hd9 (fun b v W h => znatN_any b x v W h (by omega))
 clear hn hm in1 e1 e2 hx hy ln lm h0
 go_enter Tryz.func217, Tryz.ntmps217
 go_wp2_with fail
 have L:=((L0.varZ (w.heap.size) (by simp) (ng n) A (zl n) c).varQ (w.heap.size + 1) (by simp) false none none 0 0 0 0)
 obtain ⟨c00,c01,c02⟩:=L.b0.a3
 obtain ⟨f00,f01,f02⟩:=L.b0.f3
 obtain ⟨c10,c11⟩:=L.tl.b0.a2
 refine (HL.out _ (L.getN (by simp)) (L.getN (by simp))).mono ?_
 rintro e w1 ⟨v1, v2, rfl, o1, o2, be⟩
 clear c00 f00 c01 f01 c02 f02 c10 c11
 have i1 : IsN w1 v1 x:=isN_of_own o1 rfl
 have i2 : IsN w1 v2 y:=isN_of_own o2 rfl
 obtain ⟨A2, c2, rfl⟩:=i2.form
 replace L:=((L.step be).n i1).n i2
 clear o1 o2 i1 i2 be
 obtain ⟨c00,c01,c02⟩:=L.b0.a3
 obtain ⟨f00,f01,f02⟩:=L.b0.f3
 obtain ⟨c10,c11⟩:=L.tl.b0.a2
 go_wp2_with fail
 refine (HS.out _ _ _ (L.getN (by simp))).mono ?_
 rintro e w2 ⟨v3, rfl, iz, be⟩
 clear c00 f00 c01 f01 c02 f02 c10 c11
 replace L:=(L.step be).z iz
 obtain ⟨A3, c3, rfl, _⟩:=iz.form
 clear be iz
 obtain ⟨c00,c01,c02⟩:=L.b0.a3
 obtain ⟨f00,f01,f02⟩:=L.b0.f3
 obtain ⟨c10,c11⟩:=L.tl.b0.a2
 go_wp2_with fail
 have LP:=L.putQ (by omega) (by first | (simp; done) | (simp; omega)) (ng (sg (ng n) x)) A3 A2 (zl (sg (ng n) x)) c3 (len (y)) c2
 obtain ⟨k0,k1,k2⟩:=LP.b0.a3
 unfold put3 at k0 k1 k2
 exact bodyPost_ret (v:=.agg #[.bool (ng (sg (ng n) x)), .slice A3 (zl (sg (ng n) x)) c3, .slice A2 (len (y)) c2]) (by simp [results, Tryz.results217, go_sem, k0, k1, k2]) rfl ⟨_, rfl, isP_of LP.hz (LP.getN (by simp)), LP.below⟩
theorem ptimes_any (a : Int) (d : Nat) (vx va : Value) (w : World) (hx : IsZ w vx a) (hd : IsN w va d) (la : zl a ≤ 100000000) (ld : len d ≤ 100000000) :
  Calls Tryz.prog 261 #[vx, va] w (RetZ w (a * (d : Int))):=by
 obtain ⟨A, c, rfl, _⟩:=hx.form
 obtain ⟨B, g, rfl⟩:=hd.form
 have hz:=isZ_nat hd
 have ld' : zl (d : Int) ≤ 100000000:=ld
 have HM:=Hd9 (fun v u W h1 h2 => zmul_any a (d : Int) v u W h1 h2 (by omega) (by omega))
 have L0:=((Lq.mk0 w).z hx).z hz
 generalize a * (d : Int) = p at *
 clear hx hd hz la ld ld'
 go_enter Tryz.func261, Tryz.ntmps261
 go_wp2_with fail
 have L:=((L0.varZ (w.heap.size) (by simp) (ng a) A (zl a) c).varZ (w.heap.size + 1) (by simp) false none 0 0)
 obtain ⟨c00,c01⟩:=L.b0.a2
 obtain ⟨f00,f01⟩:=L.b0.f2
 obtain ⟨c10,c11⟩:=L.tl.b0.a2
 refine (HM.out _ _ _ (L.getZ (by simp)) (L.getZ (by simp))).mono ?_
 rintro e w1 ⟨v1, rfl, iz, be⟩
 clear c00 f00 c01 f01 c10 c11
 replace L:=(L.step be).z iz
 obtain ⟨A3, c3, rfl, _⟩:=iz.form
 clear be iz
 obtain ⟨c00,c01⟩:=L.b0.a2
 obtain ⟨f00,f01⟩:=L.b0.f2
 obtain ⟨c10,c11⟩:=L.tl.b0.a2
 go_wp2_with fail
 have LP:=L.putZ (by omega) (by first | (simp; done) | (simp; omega)) (ng (p)) A3 (zl (p)) c3
 obtain ⟨k0,k1⟩:=LP.b0.a2
 unfold put2 at k0 k1
 exact bodyPost_ret (v:=.agg #[.bool (ng (p)), .slice A3 (zl (p)) c3]) (by simp [results, Tryz.results261, go_sem, k0, k1]) rfl ⟨_, rfl, LP.hz, LP.below⟩
theorem pmake_plus (n m : Int) (vn vm : Value) (w : World) (hn : IsZ w vn n) (hm : IsZ w vm m) (ln : zl n ≤ 100000000) (lm : zl m ≤ 100000000) (hm0 : 0 < m) :
  Calls Tryz.prog 163 #[vn, vm] w (RetPE w (Rat.divInt n m).num (Rat.divInt n m).den 0):=by
 obtain ⟨A, c, rfl, _⟩:=hn.form
 obtain ⟨B, d, rfl, im1⟩:=hm.form
 have L0:=(((Lq.mk0 w).z hn).z hm).n im1
 have HS:=Hd9 (fun W h => zsign_any m (.agg #[.bool (ng m), .slice B (zl m) d]) W h (Nat.le_trans lm (by omega)))
 have ec : cmpI m 0 = 1:=by unfold cmpI; (repeat' split) <;> omega
 rw [ec] at HS
 have hng : ng m = false:=ng_no (by omega)
 have eD : Rat.divInt n ((m.natAbs : Nat) : Int) = Rat.divInt n m:=by
  rw [Int.natAbs_of_nonneg (Int.le_of_lt hm0)]
 have h3:=fun v u W k1 k2 => plow_any n m.natAbs v u W k1 k2 (by omega) lm (by omega)
 rw [eD] at h3
 unfold RetQ at h3
 have H3:=Hd9 h3
 generalize (Rat.divInt n m).num = rn at *
 generalize (Rat.divInt n m).den = rd at *
 generalize m.natAbs = ma at *
 clear h3 eD ec hn hm im1 ln lm hm0
 rw [hng] at L0 HS ⊢
 clear hng
 go_enter Tryz.func163, Tryz.ntmps163
 go_wp2_with fail
 have L:=(((L0.varZ (w.heap.size) (by simp) (ng n) A (zl n) c).varZ (w.heap.size + 1) (by simp) false B (zl m) d).varQ (w.heap.size + 2) (by simp) false none none 0 0 0 0)
 obtain ⟨c00,c01,c02⟩:=L.b0.a3
 obtain ⟨f00,f01,f02⟩:=L.b0.f3
 obtain ⟨c10,c11⟩:=L.tl.b0.a2
 obtain ⟨c20,c21⟩:=L.tl.tl.b0.a2
 refine (HS.out _ (L.getZ (by simp))).mono ?_
 rintro e w1 ⟨rfl, be⟩
 clear c00 f00 c01 f01 c02 f02 c10 c11 c20 c21
 replace L:=L.step be
 clear be
 obtain ⟨c00,c01,c02⟩:=L.b0.a3
 obtain ⟨f00,f01,f02⟩:=L.b0.f3
 obtain ⟨c10,c11⟩:=L.tl.b0.a2
 obtain ⟨c20,c21⟩:=L.tl.tl.b0.a2
 go_wp2_with fail
 refine (H3.out _ _ _ (L.getZ (by simp)) (L.getN (by simp))).mono ?_
 rintro e w2 ⟨v3, rfl, iq, be⟩
 clear c00 f00 c01 f01 c02 f02 c10 c11 c20 c21
 replace L:=(L.step be).q iq
 obtain ⟨A9, c9, B9, d9, rfl, _, _, _⟩:=iq.form
 clear be iq
 obtain ⟨c00,c01,c02⟩:=L.b0.a3
 obtain ⟨f00,f01,f02⟩:=L.b0.f3
 obtain ⟨c10,c11⟩:=L.tl.b0.a2
 obtain ⟨c20,c21⟩:=L.tl.tl.b0.a2
 go_wp2_with fail
 have LP:=L.putQ (by omega) (by first | (simp; done) | (simp; omega)) (ng (rn)) A9 B9 (zl (rn)) c9 (len (rd)) d9
 obtain ⟨k0,k1,k2⟩:=LP.b0.a3
 unfold put3 at k0 k1 k2
 exact bodyPost_ret (v:=.tuple #[.agg #[.bool (ng (rn)), .slice A9 (zl (rn)) c9, .slice B9 (len (rd)) d9], .int .i64 0]) (by simp [results, Tryz.results163, go_sem, k0, k1, k2]) rfl ⟨_, rfl, LP.hq, LP.below⟩
theorem pmake_minus (n m : Int) (vn vm : Value) (w : World) (hn : IsZ w vn n) (hm : IsZ w vm m) (ln : zl n ≤ 100000000) (lm : zl m ≤ 100000000) (hm0 : m < 0) :
  Calls Tryz.prog 163 #[vn, vm] w (RetPE w (Rat.divInt n m).num (Rat.divInt n m).den 0):=by
 obtain ⟨A, c, rfl, _⟩:=hn.form
 obtain ⟨B, d, rfl, im1⟩:=hm.form
 have L0:=(((Lq.mk0 w).z hn).z hm).n im1
 have HS:=Hd9 (fun W h => zsign_any m (.agg #[.bool (ng m), .slice B (zl m) d]) W h (Nat.le_trans lm (by omega)))
 have ec : cmpI m 0 = -1:=by unfold cmpI; (repeat' split) <;> omega
 rw [ec] at HS
 have hng : ng m = true:=ng_yes hm0
 have hzn:=zl_neg n
 have h1:=fun v W h => zneg_any n v W h (Nat.le_trans ln (by omega))
 obtain ⟨nn, hnn⟩:=nm9 (-n)
 rw [hnn] at h1 hzn
 have H1:=Hd9 h1
 clear h1
 have eD : Rat.divInt nn ((m.natAbs : Nat) : Int) = Rat.divInt n m:=by
  rw [← hnn, Int.ofNat_natAbs_of_nonpos (Int.le_of_lt hm0), divInt_neg]
 have h3:=fun v u W k1 k2 => plow_any nn m.natAbs v u W k1 k2 (by omega) lm (by omega)
 rw [eD] at h3
 unfold RetQ at h3
 have H3:=Hd9 h3
 generalize (Rat.divInt n m).num = rn at *
 generalize (Rat.divInt n m).den = rd at *
 generalize m.natAbs = ma at *
 clear h3 eD ec hn hm im1 ln lm hm0 hnn hzn
 rw [hng] at L0 HS ⊢
 clear hng
 go_enter Tryz.func163, Tryz.ntmps163
 go_wp2_with fail
 have L:=(((L0.varZ (w.heap.size) (by simp) (ng n) A (zl n) c).varZ (w.heap.size + 1) (by simp) true B (zl m) d).varQ (w.heap.size + 2) (by simp) false none none 0 0 0 0)
 obtain ⟨c00,c01,c02⟩:=L.b0.a3
 obtain ⟨f00,f01,f02⟩:=L.b0.f3
 obtain ⟨c10,c11⟩:=L.tl.b0.a2
 obtain ⟨c20,c21⟩:=L.tl.tl.b0.a2
 obtain ⟨f20,f21⟩:=L.tl.tl.b0.f2
 refine (HS.out _ (L.getZ (by simp))).mono ?_
 rintro e w1 ⟨rfl, be⟩
 clear c00 f00 c01 f01 c02 f02 c10 c11 c20 f20 c21 f21
 replace L:=L.step be
 clear be
 obtain ⟨c00,c01,c02⟩:=L.b0.a3
 obtain ⟨f00,f01,f02⟩:=L.b0.f3
 obtain ⟨c10,c11⟩:=L.tl.b0.a2
 obtain ⟨c20,c21⟩:=L.tl.tl.b0.a2
 obtain ⟨f20,f21⟩:=L.tl.tl.b0.f2
 go_wp2_with fail
 refine (H1.out _ _ (L.getZ (by simp))).mono ?_
 rintro e w2 ⟨v1, rfl, iz, be⟩
 clear c00 f00 c01 f01 c02 f02 c10 c11 c20 f20 c21 f21
 replace L:=(L.step be).z iz
 obtain ⟨A3, c3, rfl, _⟩:=iz.form
 clear be iz
 obtain ⟨c00,c01,c02⟩:=L.b0.a3
 obtain ⟨f00,f01,f02⟩:=L.b0.f3
 obtain ⟨c10,c11⟩:=L.tl.b0.a2
 obtain ⟨c20,c21⟩:=L.tl.tl.b0.a2
 obtain ⟨f20,f21⟩:=L.tl.tl.b0.f2
 go_wp2_with fail
 have LL:=L.pull2.putZ (by omega) (by first | (simp; done) | (simp; omega)) (ng nn) A3 (zl nn) c3
 clear c00 f00 c01 f01 c02 f02 c10 c11 c20 f20 c21 f21
 replace L:=LL.swap3
 clear LL
 unfold put2 at L
 obtain ⟨c00,c01,c02⟩:=L.b0.a3
 obtain ⟨f00,f01,f02⟩:=L.b0.f3
 obtain ⟨c10,c11⟩:=L.tl.b0.a2
 obtain ⟨c20,c21⟩:=L.tl.tl.b0.a2
 refine (H3.out _ _ _ (L.getZ (by simp)) (L.getN (by simp))).mono ?_
 rintro e w3 ⟨v3, rfl, iq, be⟩
 clear c00 f00 c01 f01 c02 f02 c10 c11 c20 c21
 replace L:=(L.step be).q iq
 obtain ⟨A9, c9, B9, d9, rfl, _, _, _⟩:=iq.form
 clear be iq
 obtain ⟨c00,c01,c02⟩:=L.b0.a3
 obtain ⟨f00,f01,f02⟩:=L.b0.f3
 obtain ⟨c10,c11⟩:=L.tl.b0.a2
 obtain ⟨c20,c21⟩:=L.tl.tl.b0.a2
 go_wp2_with fail
 have LP:=L.putQ (by omega) (by first | (simp; done) | (simp; omega)) (ng (rn)) A9 B9 (zl (rn)) c9 (len (rd)) d9
 obtain ⟨k0,k1,k2⟩:=LP.b0.a3
 unfold put3 at k0 k1 k2
 exact bodyPost_ret (v:=.tuple #[.agg #[.bool (ng (rn)), .slice A9 (zl (rn)) c9, .slice B9 (len (rd)) d9], .int .i64 0]) (by simp [results, Tryz.results163, go_sem, k0, k1, k2]) rfl ⟨_, rfl, LP.hq, LP.below⟩
theorem pmake_any (n m : Int) (vn vm : Value) (w : World) (hn : IsZ w vn n) (hm : IsZ w vm m) (ln : zl n ≤ 100000000) (lm : zl m ≤ 100000000) (hm0 : m ≠ 0) :
  Calls Tryz.prog 163 #[vn, vm] w (RetPE w (Rat.divInt n m).num (Rat.divInt n m).den 0):=by
 rcases Int.lt_or_gt_of_ne hm0 with h | h
 ·exact pmake_minus n m vn vm w hn hm ln lm h
 ·exact pmake_plus n m vn vm w hn hm ln lm h

theorem pof_any (n : Int) (w : World) (h1 : -9223372036854775808 ≤ n) (h2 : n ≤ 9223372036854775807) :
  Calls Tryz.prog 162 #[.int .i64 n] w (RetQ w (n : Rat)):=by
 have H1:=Hd9 (fun W => zof_any n W h1 h2)
 have H2:=Hd9 (fun W => of_any 1 W (by omega))
 have e1 : (n : Rat).num = n:=rfl
 have e2 : (n : Rat).den = 1:=rfl
 unfold RetQ
 rw [e1, e2]
 clear h1 h2 e1 e2
 go_enter Tryz.func162, Tryz.ntmps162
 go_wp2_with fail
 have L:=((Lq.mk0 w).varQ (w.heap.size) (by simp) false none none 0 0 0 0)
 obtain ⟨c00,c01,c02⟩:=L.b0.a3
 obtain ⟨f00,f01,f02⟩:=L.b0.f3
 refine (H1.out _).mono ?_
 rintro e w1 ⟨v1, rfl, iz, be⟩
 clear c00 f00 c01 f01 c02 f02
 replace L:=(L.step be).z iz
 obtain ⟨A9, c9, rfl, _⟩:=iz.form
 clear be iz
 obtain ⟨c00,c01,c02⟩:=L.b0.a3
 obtain ⟨f00,f01,f02⟩:=L.b0.f3
 go_wp2_with fail
 refine (H2.out _).mono ?_
 rintro e w2 ⟨v2, rfl, o⟩
 clear c00 f00 c01 f01 c02 f02
 replace L:=(L.step o.below).n o.isN
 clear o
 obtain ⟨B9, d9, rfl⟩:=L.hn.form
 obtain ⟨c00,c01,c02⟩:=L.b0.a3
 obtain ⟨f00,f01,f02⟩:=L.b0.f3
 go_wp2_with fail
 have LP:=L.putQ (by omega) (by first | (simp; done) | (simp; omega)) (ng (n)) A9 B9 (zl (n)) c9 (len (1)) d9
 obtain ⟨k0,k1,k2⟩:=LP.b0.a3
 unfold put3 at k0 k1 k2
 exact bodyPost_ret (v:=.agg #[.bool (ng (n)), .slice A9 (zl (n)) c9, .slice B9 (len (1)) d9]) (by simp [results, Tryz.results162, go_sem, k0, k1, k2]) rfl ⟨_, rfl, isP_of LP.hz LP.hn, LP.below⟩
theorem pneg_any (a : Int) (d : Nat) (vx : Value) (w : World) (hx : IsP w vx a d) (la : zl a ≤ 1000000) (ld : len d ≤ 1000000) :
  Calls Tryz.prog 170 #[vx] w (RetP w (-a) d):=by
 obtain ⟨A, c, B, g, rfl, hz, _, hd⟩:=hx.form
 have h1:=fun v W h => zneg_any a v W h (by omega)
 have H2:=Hd9 (fun v W h => trimP_any d v W h ld)
 have L0:=((Lq.mk0 w).z hz).n hd
 obtain ⟨na, hna⟩:=nm9 (-a)
 rw [hna] at h1 ⊢
 have H1:=Hd9 h1
 clear hx hz hd h1 hna
 go_enter Tryz.func170, Tryz.ntmps170
 go_wp2_with fail
 have L:=((L0.varQ (w.heap.size) (by simp) (ng a) A B (zl a) c (len d) g).varQ (w.heap.size + 1) (by simp) false none none 0 0 0 0)
 replace L:=L.drew
 obtain ⟨c00,c01,c02⟩:=L.b0.a3
 obtain ⟨f00,f01,f02⟩:=L.b0.f3
 obtain ⟨c10,c11,c12⟩:=L.tl.b0.a3
 go_region_held3 (fun w' => w'.cell? ⟨w.heap.size, 0, none⟩ = some (.bool (ng a)) ∧ w'.cell? ⟨w.heap.size, 1, none⟩ = some (.slice A (zl a) c) ∧ w'.cell? ⟨w.heap.size, 2, none⟩ = some (.slice B (len d) g)) (first | (with_reducible exact ⟨L.tl.b0.c30, L.tl.b0.c31, L.tl.b0.c32⟩) | exact ⟨L.tl.b0.c30, L.tl.b0.c31, L.tl.b0.c32⟩ | (have LP:=L.putQ (by omega) (by first | (simp; done) | (simp; omega)) (ng na) A9 B9 (zl na) c9 (len d) d9; exact ⟨LP.tl.b0.c30, LP.tl.b0.c31, LP.tl.b0.c32⟩)) (first | (go_at_call 169; (with_reducible refine (H1.out _ _ ?_ ).mono ?_); (· (refine L.getZ ?_; (repeat (first | (with_reducible exact mS) | apply mT)))); rintro e wh ⟨vh, rfl, iz, be⟩; replace L:=(L.step be).z iz; obtain ⟨A9, c9, rfl, _⟩:=iz.form; clear be iz; (try (obtain ⟨x00,x01,x02⟩:=L.b0.a3; obtain ⟨y00,y01,y02⟩:=L.b0.f3; obtain ⟨z0,z1,z2⟩:=L.tl.b0.a3))) | (go_at_call 222; (with_reducible refine (H2.out _ _ ?_ ).mono ?_); (· (refine L.getN ?_; (repeat (first | (with_reducible exact mS) | apply mT)))); rintro e wh ⟨vh, rfl, o9⟩; replace L:=(L.step o9.below).n o9.isN; obtain ⟨B9, d9, rfl⟩:=L.hn.form; clear o9; (try (obtain ⟨x00,x01,x02⟩:=L.b0.a3; obtain ⟨y00,y01,y02⟩:=L.b0.f3; obtain ⟨z0,z1,z2⟩:=L.tl.b0.a3))))
 clear c00 f00 c01 f01 c02 f02 c10 c11 c12
 go_wp2_with fail
 have LP:=L.putQ (by omega) (by first | (simp; done) | (simp; omega)) (ng (na)) A9 B9 (zl (na)) c9 (len (d)) d9
 obtain ⟨k0,k1,k2⟩:=LP.b0.a3
 unfold put3 at k0 k1 k2
 exact bodyPost_ret (v:=.agg #[.bool (ng (na)), .slice A9 (zl (na)) c9, .slice B9 (len (d)) d9]) (by simp [results, Tryz.results170, go_sem, k0, k1, k2]) rfl ⟨_, rfl, isP_of LP.hz LP.hn, LP.below⟩
theorem pmul_any (a : Int) (d : Nat) (b : Int) (e : Nat) (vx vy : Value) (w : World) (hx : IsP w vx a d) (hy : IsP w vy b e) (la : zl a ≤ 1000000) (ld : len d ≤ 1000000) (lb : zl b ≤ 1000000) (le : len e ≤ 1000000) (hd0 : 0 < d) (he0 : 0 < e) :
  Calls Tryz.prog 213 #[vx, vy] w (RetQ w (Rat.divInt (a * b) ((d : Int) * (e : Int)))):=by
 obtain ⟨A, c, B, g, rfl, hza, _, hnd⟩:=hx.form
 obtain ⟨C, i, D, k, rfl, hzb, _, hne⟩:=hy.form
 have L0:=((((((Lq.mk0 w).q hx).q hy).z hza).z hzb).n hnd).n hne
 clear hx hy hza hzb hnd hne
 have l1:=zl_mul a b
 have l3:=len_mul d e
 have H1:=Hd9 (fun v u W h1 h2 => zmul_any a b v u W h1 h2 (by omega) (by omega))
 have H3:=Hd9 (fun v u W h1 h2 => mul_any d e v u W h1 h2 (by omega) (by omega))
 have h5:=fun v u W h1 h2 => plow_any (a * b) (d * e) v u W h1 h2 (by omega) (by omega) (Nat.mul_pos hd0 he0)
 rw [Int.natCast_mul] at h5
 unfold RetQ at h5 ⊢
 have H5:=Hd9 h5
 generalize (Rat.divInt (a * b) ((d : Int) * (e : Int))).num = rn at *
 generalize (Rat.divInt (a * b) ((d : Int) * (e : Int))).den = rd at *
 clear h5 l1 l3 la ld lb le hd0 he0
 generalize a * b = p1 at *
 generalize d * e = p3 at *
 go_enter Tryz.func213, Tryz.ntmps213
 go_wp2_with fail
 have L:=(((L0.varQ (w.heap.size) (by simp) (ng a) A B (zl a) c (len d) g).varQ (w.heap.size + 1) (by simp) (ng b) C D (zl b) i (len e) k).varQ (w.heap.size + 2) (by simp) false none none 0 0 0 0)
 replace L:=L.drew
 obtain ⟨c00,c01,c02⟩:=L.b0.a3
 obtain ⟨f00,f01,f02⟩:=L.b0.f3
 obtain ⟨c10,c11,c12⟩:=L.tl.b0.a3
 obtain ⟨c20,c21,c22⟩:=L.tl.tl.b0.a3
 go_region_held3 (fun w' => w'.cell? ⟨w.heap.size, 0, none⟩ = some (.bool (ng a)) ∧ w'.cell? ⟨w.heap.size, 1, none⟩ = some (.slice A (zl a) c) ∧ w'.cell? ⟨w.heap.size, 2, none⟩ = some (.slice B (len d) g) ∧ w'.cell? ⟨w.heap.size + 1, 0, none⟩ = some (.bool (ng b)) ∧ w'.cell? ⟨w.heap.size + 1, 1, none⟩ = some (.slice C (zl b) i) ∧ w'.cell? ⟨w.heap.size + 1, 2, none⟩ = some (.slice D (len e) k)) (first | (with_reducible exact ⟨L.tl.tl.b0.c30, L.tl.tl.b0.c31, L.tl.tl.b0.c32, L.tl.b0.c30, L.tl.b0.c31, L.tl.b0.c32⟩) | exact ⟨L.tl.tl.b0.c30, L.tl.tl.b0.c31, L.tl.tl.b0.c32, L.tl.b0.c30, L.tl.b0.c31, L.tl.b0.c32⟩ | (have LP:=L.putQ (by omega) (by first | (simp; done) | (simp; omega)) (ng rn) A9 B9 (zl rn) c9 (len rd) d9; exact ⟨LP.tl.tl.b0.c30, LP.tl.tl.b0.c31, LP.tl.tl.b0.c32, LP.tl.b0.c30, LP.tl.b0.c31, LP.tl.b0.c32⟩)) (first | (go_at_call 153; (with_reducible refine (H1.out _ _ _ ?_ ?_ ).mono ?_); (· (refine L.getZ ?_; (repeat (first | (with_reducible exact mS) | apply mT)))); (· (refine L.getZ ?_; (repeat (first | (with_reducible exact mS) | apply mT)))); rintro e wh ⟨vh, rfl, iz, be⟩; replace L:=(L.step be).z iz; clear be iz) | (go_at_call 209; (with_reducible refine (H3.out _ _ _ ?_ ?_ ).mono ?_); (· (refine L.getN ?_; (repeat (first | (with_reducible exact mS) | apply mT)))); (· (refine L.getN ?_; (repeat (first | (with_reducible exact mS) | apply mT)))); rintro e wh ⟨vh, rfl, o9⟩; replace L:=(L.step o9.below).n o9.isN; clear o9) | (go_at_call 217; (with_reducible refine (H5.out _ _ _ ?_ ?_ ).mono ?_); (· (refine L.getZ ?_; (repeat (first | (with_reducible exact mS) | apply mT)))); (· (refine L.getN ?_; (repeat (first | (with_reducible exact mS) | apply mT)))); rintro e wh ⟨vh, rfl, iq, be⟩; replace L:=(L.step be).q iq; obtain ⟨A9, c9, B9, d9, rfl, _, _, _⟩:=iq.form; clear be iq; (try (obtain ⟨x00,x01,x02⟩:=L.b0.a3; obtain ⟨y00,y01,y02⟩:=L.b0.f3))))
 clear c00 f00 c01 f01 c02 f02 c10 c11 c12 c20 c21 c22
 go_wp2_with fail
 have LP:=L.putQ (by omega) (by first | (simp; done) | (simp; omega)) (ng (rn)) A9 B9 (zl (rn)) c9 (len (rd)) d9
 obtain ⟨k0,k1,k2⟩:=LP.b0.a3
 unfold put3 at k0 k1 k2
 exact bodyPost_ret (v:=.agg #[.bool (ng (rn)), .slice A9 (zl (rn)) c9, .slice B9 (len (rd)) d9]) (by simp [results, Tryz.results213, go_sem, k0, k1, k2]) rfl ⟨_, rfl, LP.hq, LP.below⟩
theorem pdiv_any (a : Int) (d : Nat) (b : Int) (e : Nat) (vx vy : Value) (w : World) (hx : IsP w vx a d) (hy : IsP w vy b e) (la : zl a ≤ 1000000) (ld : len d ≤ 1000000) (lb : zl b ≤ 1000000) (le : len e ≤ 1000000) (hd0 : 0 < d) (hb0 : b ≠ 0) :
  Calls Tryz.prog 246 #[vx, vy] w (RetPE w (Rat.divInt (a * (e : Int)) ((d : Int) * b)).num (Rat.divInt (a * (e : Int)) ((d : Int) * b)).den 0):=by
 obtain ⟨A, c, B, g, rfl, hza, _, hnd⟩:=hx.form
 obtain ⟨C, i, D, k, rfl, hzb, _, hne⟩:=hy.form
 have L0:=((((((Lq.mk0 w).q hx).q hy).z hza).z hzb).n hnd).n hne
 clear hx hy hza hzb hnd hne
 have le' : zl (e : Int) ≤ 1000000:=le
 have ld' : zl (d : Int) ≤ 1000000:=ld
 have l1:=zl_mul a (e : Int)
 have H1:=Hd9 (fun v u W h1 h2 => ptimes_any a e v u W h1 h2 (by omega) (by omega))
 have l2:=zl_mul b (d : Int)
 have h0 : b * (d : Int) ≠ 0:=Int.mul_ne_zero hb0 (by omega)
 have H2:=Hd9 (fun v u W h1 h2 => ptimes_any b d v u W h1 h2 (by omega) (by omega))
 rw [Int.mul_comm (d : Int) b]
 have H5:=Hd9 (fun v u W h1 h2 => pmake_any (a * (e : Int)) (b * (d : Int)) v u W h1 h2 (by omega) (by omega) h0)
 generalize (Rat.divInt (a * (e : Int)) (b * (d : Int))).num = rn at *
 generalize (Rat.divInt (a * (e : Int)) (b * (d : Int))).den = rd at *
 clear h0 l1 l2 ld' le' la ld lb le hd0 hb0
 generalize a * (e : Int) = p1 at *
 generalize b * (d : Int) = p2 at *
 go_enter Tryz.func246, Tryz.ntmps246
 go_wp2_with fail
 have L:=(((L0.varQ (w.heap.size) (by simp) (ng a) A B (zl a) c (len d) g).varQ (w.heap.size + 1) (by simp) (ng b) C D (zl b) i (len e) k).varQ (w.heap.size + 2) (by simp) false none none 0 0 0 0)
 replace L:=L.drew
 obtain ⟨c00,c01,c02⟩:=L.b0.a3
 obtain ⟨f00,f01,f02⟩:=L.b0.f3
 obtain ⟨c10,c11,c12⟩:=L.tl.b0.a3
 obtain ⟨c20,c21,c22⟩:=L.tl.tl.b0.a3
 go_region_held3 (fun w' => w'.cell? ⟨w.heap.size, 0, none⟩ = some (.bool (ng a)) ∧ w'.cell? ⟨w.heap.size, 1, none⟩ = some (.slice A (zl a) c) ∧ w'.cell? ⟨w.heap.size, 2, none⟩ = some (.slice B (len d) g) ∧ w'.cell? ⟨w.heap.size + 1, 0, none⟩ = some (.bool (ng b)) ∧ w'.cell? ⟨w.heap.size + 1, 1, none⟩ = some (.slice C (zl b) i) ∧ w'.cell? ⟨w.heap.size + 1, 2, none⟩ = some (.slice D (len e) k)) (first | (with_reducible exact ⟨L.tl.tl.b0.c30, L.tl.tl.b0.c31, L.tl.tl.b0.c32, L.tl.b0.c30, L.tl.b0.c31, L.tl.b0.c32⟩) | exact ⟨L.tl.tl.b0.c30, L.tl.tl.b0.c31, L.tl.tl.b0.c32, L.tl.b0.c30, L.tl.b0.c31, L.tl.b0.c32⟩ | (have LP:=L.putQ (by omega) (by first | (simp; done) | (simp; omega)) (ng rn) A9 B9 (zl rn) c9 (len rd) d9; exact ⟨LP.tl.tl.b0.c30, LP.tl.tl.b0.c31, LP.tl.tl.b0.c32, LP.tl.b0.c30, LP.tl.b0.c31, LP.tl.b0.c32⟩)) (first | (go_at_call 261; (with_reducible refine (H1.out _ _ _ ?_ ?_ ).mono ?_); (· (refine L.getZ ?_; (repeat (first | (with_reducible exact mS) | apply mT)))); (· (refine L.getN ?_; (repeat (first | (with_reducible exact mS) | apply mT)))); rintro e wh ⟨vh, rfl, iz, be⟩; replace L:=(L.step be).z iz; clear be iz) | (go_at_call 261; (with_reducible refine (H2.out _ _ _ ?_ ?_ ).mono ?_); (· (refine L.getZ ?_; (repeat (first | (with_reducible exact mS) | apply mT)))); (· (refine L.getN ?_; (repeat (first | (with_reducible exact mS) | apply mT)))); rintro e wh ⟨vh, rfl, iz, be⟩; replace L:=(L.step be).z iz; clear be iz) | (go_at_call 163; (with_reducible refine (H5.out _ _ _ ?_ ?_ ).mono ?_); (· (refine L.getZ ?_; (repeat (first | (with_reducible exact mS) | apply mT)))); (· (refine L.getZ ?_; (repeat (first | (with_reducible exact mS) | apply mT)))); rintro e wh ⟨vh, rfl, iq, be⟩; replace L:=(L.step be).q iq; obtain ⟨A9, c9, B9, d9, rfl, _, _, _⟩:=iq.form; clear be iq; (try (obtain ⟨x00,x01,x02⟩:=L.b0.a3; obtain ⟨y00,y01,y02⟩:=L.b0.f3))))
 clear c00 f00 c01 f01 c02 f02 c10 c11 c12 c20 c21 c22
 go_wp2_with fail
 have LP:=L.putQ (by omega) (by first | (simp; done) | (simp; omega)) (ng (rn)) A9 B9 (zl (rn)) c9 (len (rd)) d9
 obtain ⟨k0,k1,k2⟩:=LP.b0.a3
 unfold put3 at k0 k1 k2
 exact bodyPost_ret (v:=.tuple #[.agg #[.bool (ng (rn)), .slice A9 (zl (rn)) c9, .slice B9 (len (rd)) d9], .int .i64 0]) (by simp [results, Tryz.results246, go_sem, k0, k1, k2]) rfl ⟨_, rfl, LP.hq, LP.below⟩
end Go.Proofs.YtiddbhhhmeopeaaGreatDoor


/- Floor of fractions: the program's and the reference's. -/
namespace Go.Proofs.YtiddbhhhmeopeaaGreatDoor
set_option maxHeartbeats 64000000
open Go.RowKit
set_option linter.unusedVariables false
set_option linter.unusedSimpArgs false
set_option maxRecDepth 100000
attribute [local go_sem ↓] Go.wp_at_zero Go.wp_at_succ

theorem pfloor_any (a : Int) (d : Nat) (vx : Value) (w : World) (hx : IsP w vx a d) (la : zl a ≤ 1000000) (ld : len d ≤ 1000000) (hd0 : 0 < d) :
  Calls Tryz.prog 219 #[vx] w (RetZ w (a / (d : Int))):=by
 obtain ⟨A, c, B, g, rfl, hz, _, hd⟩:=hx.form
 have hzd:=isZ_nat hd
 have ld' : zl (d : Int) ≤ 1000000:=ld
 have h1:=fun v u W k1 k2 => zdivmod_any a (d : Int) v u W k1 k2 (by omega) (by omega) (by omega)
 rw [Int.fdiv_eq_ediv_of_nonneg _ (by omega)] at h1
 have H1:=Hd9 h1
 clear h1
 have L0:=((Lq.mk0 w).z hz).z hzd
 generalize a / (d : Int) = q at *
 generalize a.fmod (d : Int) = r at *
 clear hx hz hd hzd la ld ld' hd0
 go_enter Tryz.func219, Tryz.ntmps219
 go_wp2_with fail
 have L:=((L0.varQ (w.heap.size) (by simp) (ng a) A B (zl a) c (len d) g).varZ (w.heap.size + 1) (by simp) false none 0 0)
 obtain ⟨c00,c01⟩:=L.b0.a2
 obtain ⟨f00,f01⟩:=L.b0.f2
 obtain ⟨c10,c11,c12⟩:=L.tl.b0.a3
 refine (H1.out _ _ _ (L.getZ (by simp)) (L.getZ (by simp))).mono ?_
 rintro e w1 ⟨v1, v2, rfl, i1, i2, be⟩
 clear c00 f00 c01 f01 c10 c11 c12
 replace L:=((L.step be).z i2).z i1
 obtain ⟨A1, c1, rfl, _⟩:=i1.form
 obtain ⟨A2, c2, rfl, _⟩:=i2.form
 clear be i1 i2
 have hl:=L.b0.lt
 replace L:=(L.varZ w1.heap.size rfl (ng q) A1 (zl q) c1).varZ (w1.heap.size + 1) (by simp) (ng r) A2 (zl r) c2
 obtain ⟨c00,c01⟩:=L.b0.a2
 obtain ⟨f00,f01⟩:=L.b0.f2
 obtain ⟨c10,c11⟩:=L.tl.b0.a2
 obtain ⟨f10,f11⟩:=L.tl.b0.f2
 obtain ⟨c20,c21⟩:=L.tl.tl.b0.a2
 obtain ⟨f20,f21⟩:=L.tl.tl.b0.f2
 obtain ⟨c30,c31,c32⟩:=L.tl.tl.tl.b0.a3
 go_wp2_with fail
 clear c00 f00 c01 f01 c10 f10 c11 f11 c20 f20 c21 f21 c30 c31 c32
 have LP:=L.pull2.putZ (by omega) (by first | (simp; done) | (simp; omega)) (ng q) A1 (zl q) c1
 obtain ⟨k0,k1⟩:=LP.b0.a2
 unfold put2 at k0 k1
 exact bodyPost_ret (v:=.agg #[.bool (ng q), .slice A1 (zl q) c1]) (by simp [results, Tryz.results219, go_sem, k0, k1]) rfl ⟨_, rfl, LP.getZ (by simp), LP.below⟩
end Go.Proofs.YtiddbhhhmeopeaaGreatDoor


/- The program's grid: the floor of a fraction. -/
namespace Go.Proofs.YtiddbhhhmeopeaaGreatDoor
set_option maxHeartbeats 64000000
open Go.RowKit
set_option linter.unusedVariables false
set_option linter.unusedSimpArgs false
set_option maxRecDepth 100000
attribute [local go_sem ↓] Go.wp_at_zero Go.wp_at_succ

theorem gflR_any (a : Int) (d : Nat) (p : Int) (vx : Value) (w : World) (hx : IsP w vx a d) (la : zl a ≤ 2000) (ld : len d ≤ 2000) (hd : 0 < d) (hp : -9000 ≤ p ∧ p ≤ 9000) (hT : Tab w) :
  Calls Tryz.prog 167 #[vx, .int .i64 p] w (RetZ w (cutQ (Rat.divInt a d) p)):=by
 obtain ⟨A, c, B, g, rfl, hz, _, hn⟩:=hx.form
 by_cases q1 : p < 0
 ·obtain ⟨k, hk⟩ : ∃ k : Nat, p = -(k : Int):=⟨(-p).toNat, by omega⟩
  have L0:=(Lq.mk0 w).q hx
  have b1 : decide (p < 0) = true:=decide_eq_true q1
  have hwk : IntKind.i64.wrap (-p) = (k : Int):=by rw [IntKind.wrap_i64]; omega
  have H1:=Hd9 (fun v W h => pfloor_any a d v W h (by omega) (by omega) hd)
  have lz : zl (a / (d : Int)) ≤ zl a:=by
   unfold zl
   exact len_mono (Int.natAbs_ediv_le_natAbs _ _)
  have h2:=fun v W h (hW : Below w.heap.size w W) => zshr_any (a / (d : Int)) v W h (by omega) k (by omega) (hT.mono hW)
  have hC : a / (d : Int) / 2 ^ k = cutQ (Rat.divInt a (d : Int)) p:=by
   rw [hk, cut_down a d hd k, Int.ediv_ediv_of_nonneg (by omega)]
  rw [hC] at h2
  generalize cutQ (Rat.divInt a (d : Int)) p = C at *
  generalize a / (d : Int) = q at *
  have H2:=Hd9 h2
  clear h2 hC lz hx hz hn la ld hd hp hT hk
  go_enter Tryz.func167, Tryz.ntmps167
  go_wp2_with fail
  have L:=((L0.varQ (w.heap.size) (by simp) (ng a) A B (zl a) c (len d) g).varZ (w.heap.size + 1) (by simp) false none 0 0)
  obtain ⟨c00,c01⟩:=L.b0.a2
  obtain ⟨f00,f01⟩:=L.b0.f2
  obtain ⟨c10,c11,c12⟩:=L.tl.b0.a3
  obtain ⟨f10,f11,f12⟩:=L.tl.b0.f3
  (try go_wp2_with fail)
  refine (H1.out _ _ (L.getQ (by simp))).mono ?_
  rintro e w1 ⟨v1, rfl, iz, be⟩
  clear c00 f00 c01 f01 c10 f10 c11 f11 c12 f12
  replace L:=(L.step be).z iz
  clear be iz
  obtain ⟨c00,c01⟩:=L.b0.a2
  obtain ⟨f00,f01⟩:=L.b0.f2
  obtain ⟨c10,c11,c12⟩:=L.tl.b0.a3
  obtain ⟨f10,f11,f12⟩:=L.tl.b0.f3
  (try go_wp2_with fail)
  refine (H2.out _ _ L.hz L.below).mono ?_
  rintro e w2 ⟨v9, rfl, iz, be⟩
  clear c00 f00 c01 f01 c10 f10 c11 f11 c12 f12
  replace L:=(L.step be).z iz
  obtain ⟨A9, c9, rfl, _⟩:=iz.form
  clear be iz
  obtain ⟨c00,c01⟩:=L.b0.a2
  obtain ⟨f00,f01⟩:=L.b0.f2
  obtain ⟨c10,c11,c12⟩:=L.tl.b0.a3
  obtain ⟨f10,f11,f12⟩:=L.tl.b0.f3
  (try go_wp2_with fail)
  have LP:=L.putZ (by omega) (by first | (simp; done) | (simp; omega)) (ng C) A9 (zl C) c9
  obtain ⟨k0,k1⟩:=LP.b0.a2
  unfold put2 at k0 k1
  exact bodyPost_ret (v:=.agg #[.bool (ng C), .slice A9 (zl C) c9]) (by simp [results, Tryz.results167, go_sem, k0, k1]) rfl ⟨_, rfl, LP.hz, LP.below⟩
 ·obtain ⟨k, rfl⟩ : ∃ k : Nat, p = (k : Int):=⟨p.toNat, by omega⟩
  have b1 : decide ((k : Int) < 0) = false:=decide_eq_false q1
  have lz:=zl_two a k
  have H1:=Hd9 (fun v W h => zshl_any a v W h (by omega) k (by omega))
  have hn0:=fun v W h => znatN_any false d v W h (by omega)
  rw [show sg false d = (d : Int) from rfl] at hn0
  have HN:=Hd9 hn0
  have ld' : zl (d : Int) ≤ 2000:=ld
  rw [cut_up a d hd k]
  obtain ⟨X, hX⟩:=nm9 (a * 2 ^ k)
  rw [hX] at H1 lz ⊢
  have h2:=fun v u W k1 k2 => zdivmod_any X (d : Int) v u W k1 k2 (by omega) (by omega) (by omega)
  rw [Int.fdiv_eq_ediv_of_nonneg _ (by omega)] at h2
  generalize X / (d : Int) = C at *
  generalize X.fmod (d : Int) = R at *
  have H2:=Hd9 h2
  have L0:=((Lq.mk0 w).z hz).n hn
  clear h2 hn0 lz ld' hX la ld hd hp hT hx
  go_enter Tryz.func167, Tryz.ntmps167
  go_wp2_with fail
  have L:=((L0.varQ (w.heap.size) (by simp) (ng a) A B (zl a) c (len d) g).varZ (w.heap.size + 1) (by simp) false none 0 0)
  obtain ⟨c00,c01⟩:=L.b0.a2
  obtain ⟨f00,f01⟩:=L.b0.f2
  obtain ⟨c10,c11,c12⟩:=L.tl.b0.a3
  obtain ⟨f10,f11,f12⟩:=L.tl.b0.f3
  (try go_wp2_with fail)
  clear c00 f00 c01 f01 c10 f10 c11 f11 c12 f12
  obtain ⟨V, hV⟩:=nm9 ((w.alloc (.cells #[.bool (ng a), .slice A (zl a) c, .slice B (len d) g] 65)).alloc (.cells #[.bool false, .slice none 0 0] 24))
  rw [hV] at L ⊢
  clear hV
  have Q0:=Hd9 (fun Z (hZ : Below V.heap.size V Z) => (L.tl.b0.mono hZ).c30)
  have Q1:=Hd9 (fun Z (hZ : Below V.heap.size V Z) => (L.tl.b0.mono hZ).c31)
  have Q2:=Hd9 (fun Z (hZ : Below V.heap.size V Z) => (L.tl.b0.mono hZ).c32)
  have hgx0:=L.tl.b0.lt
  have GZ:=Hd9 (fun Z (hZ : Below V.heap.size V Z) => (hz.mono L.below).mono hZ)
  have GN:=Hd9 (fun Z (hZ : Below V.heap.size V Z) => (hn.mono L.below).mono hZ)
  have D0 : Dq V V [] [] [] []:=⟨Lq.mk0 V, List.nodup_nil, fun p hp => by cases hp⟩
  have LL:=Hd9 L
  clear L hz hn L0
  have D:=D0.drew
  obtain ⟨m, hmw⟩:=nm9 (V.heap.size)
  have hz0 : m ≤ V.heap.size:=by omega
  have hgx : w.heap.size < m:=by omega
  have hmd : V.drew.heap.size = m:=hmw
  go_cut [5, 6, 7] from 15 to 27 (fun s5 s6 s7 wx => Made2Z V C R s5 s6 wx)
  case first =>
   go_region_held3 (fun w' => w'.cell? ⟨w.heap.size, 0, none⟩ = some (.bool (ng a)) ∧ w'.cell? ⟨w.heap.size, 1, none⟩ = some (.slice A (zl a) c) ∧ w'.cell? ⟨w.heap.size, 2, none⟩ = some (.slice B (len d) g)) (((try dsimp only); refine ⟨?_, ?_, ?_⟩ <;> (repeat (first | (with_reducible exact Q0.out _ D.lq.below) | (with_reducible exact Q0.out _ D0.lq.below) | (with_reducible exact Q1.out _ D.lq.below) | (with_reducible exact Q1.out _ D0.lq.below) | (with_reducible exact Q2.out _ D.lq.below) | (with_reducible exact Q2.out _ D0.lq.below) | (with_reducible refine c_alloc _ ?_) | (with_reducible refine c_drew ?_) | (with_reducible refine c_set ?_ hgx ?_) | omega)))) (first | (go_at_call 192; (with_reducible refine (H1.out _ _ ?_).mono ?_); (· (first | (with_reducible exact GZ.out _ D.lq.below) | (with_reducible exact GZ.out _ (D.boxZ false none 0 0).lq.below) | (with_reducible exact GZ.out _ (D.boxZ2 false none 0 0 false none 0 0).lq.below) | (with_reducible exact GZ.out _ (D0.boxZ false none 0 0).drew.lq.below) | (with_reducible exact GZ.out _ (D0.boxZ2 false none 0 0 false none 0 0).drew.lq.below))); rintro e9 wh ⟨vh, rfl, iz, be⟩; (first | (replace D:=D.step be) | (replace D:=(D.boxMZ hmd false none 0 0).step be) | (replace D:=(D.boxMZ2 hmd false none 0 0 false none 0 0).step be) | (replace D:=(D.boxZ false none 0 0).step be) | (replace D:=(D.boxZ2 false none 0 0 false none 0 0).step be)); have hz:=be.size; (try simp at hz); replace D:=D.z iz; clear iz; (try (obtain ⟨q000,q001⟩:=D.lq.b0.a2; obtain ⟨q002,q003⟩:=D.lq.b0.f2)); (try (have q010:=(D.alloc (.cells #[.bool false, .slice none 0 0] 24)).lq.b0.c20; have q011:=(D.alloc (.cells #[.bool false, .slice none 0 0] 24)).lq.b0.c21; have q012:=(D.alloc (.cells #[.bool false, .slice none 0 0] 24)).lq.b0.fr 0; have q013:=(D.alloc (.cells #[.bool false, .slice none 0 0] 24)).lq.b0.fr 1)); (try (have q020:=((D.alloc (.cells #[.bool false, .slice none 0 0] 24)).alloc (.cells #[.bool false, .slice none 0 0] 24)).lq.b0.c20; have q021:=((D.alloc (.cells #[.bool false, .slice none 0 0] 24)).alloc (.cells #[.bool false, .slice none 0 0] 24)).lq.b0.c21; have q022:=((D.alloc (.cells #[.bool false, .slice none 0 0] 24)).alloc (.cells #[.bool false, .slice none 0 0] 24)).lq.b0.fr 0; have q023:=((D.alloc (.cells #[.bool false, .slice none 0 0] 24)).alloc (.cells #[.bool false, .slice none 0 0] 24)).lq.b0.fr 1)); (try (obtain ⟨q100,q101⟩:=D.lq.tl.b0.a2; obtain ⟨q102,q103⟩:=D.lq.tl.b0.f2)); (try (have q110:=(D.alloc (.cells #[.bool false, .slice none 0 0] 24)).lq.tl.b0.c20; have q111:=(D.alloc (.cells #[.bool false, .slice none 0 0] 24)).lq.tl.b0.c21; have q112:=(D.alloc (.cells #[.bool false, .slice none 0 0] 24)).lq.tl.b0.fr 0; have q113:=(D.alloc (.cells #[.bool false, .slice none 0 0] 24)).lq.tl.b0.fr 1)); (try (have q120:=((D.alloc (.cells #[.bool false, .slice none 0 0] 24)).alloc (.cells #[.bool false, .slice none 0 0] 24)).lq.tl.b0.c20; have q121:=((D.alloc (.cells #[.bool false, .slice none 0 0] 24)).alloc (.cells #[.bool false, .slice none 0 0] 24)).lq.tl.b0.c21; have q122:=((D.alloc (.cells #[.bool false, .slice none 0 0] 24)).alloc (.cells #[.bool false, .slice none 0 0] 24)).lq.tl.b0.fr 0; have q123:=((D.alloc (.cells #[.bool false, .slice none 0 0] 24)).alloc (.cells #[.bool false, .slice none 0 0] 24)).lq.tl.b0.fr 1)); (try obtain ⟨na, nb, nc, nd, nl⟩:=D.n0); (try obtain ⟨ne, nf, ng', nh, nm⟩:=D.n1); (try obtain ⟨ni, nj⟩:=D.n01)) | (go_at_call 221; (with_reducible refine (HN.out _ _ ?_).mono ?_); (· (first | (with_reducible exact GN.out _ D.lq.below) | (with_reducible exact GN.out _ (D.boxZ false none 0 0).lq.below) | (with_reducible exact GN.out _ (D.boxZ2 false none 0 0 false none 0 0).lq.below) | (with_reducible exact GN.out _ (D0.boxZ false none 0 0).drew.lq.below) | (with_reducible exact GN.out _ (D0.boxZ2 false none 0 0 false none 0 0).drew.lq.below))); rintro e9 wh ⟨vh, rfl, iz, be⟩; (first | (replace D:=D.step be) | (replace D:=(D.boxMZ hmd false none 0 0).step be) | (replace D:=(D.boxMZ2 hmd false none 0 0 false none 0 0).step be) | (replace D:=(D.boxZ false none 0 0).step be) | (replace D:=(D.boxZ2 false none 0 0 false none 0 0).step be)); have hz:=be.size; (try simp at hz); replace D:=D.z iz; clear iz; (try (obtain ⟨q000,q001⟩:=D.lq.b0.a2; obtain ⟨q002,q003⟩:=D.lq.b0.f2)); (try (have q010:=(D.alloc (.cells #[.bool false, .slice none 0 0] 24)).lq.b0.c20; have q011:=(D.alloc (.cells #[.bool false, .slice none 0 0] 24)).lq.b0.c21; have q012:=(D.alloc (.cells #[.bool false, .slice none 0 0] 24)).lq.b0.fr 0; have q013:=(D.alloc (.cells #[.bool false, .slice none 0 0] 24)).lq.b0.fr 1)); (try (have q020:=((D.alloc (.cells #[.bool false, .slice none 0 0] 24)).alloc (.cells #[.bool false, .slice none 0 0] 24)).lq.b0.c20; have q021:=((D.alloc (.cells #[.bool false, .slice none 0 0] 24)).alloc (.cells #[.bool false, .slice none 0 0] 24)).lq.b0.c21; have q022:=((D.alloc (.cells #[.bool false, .slice none 0 0] 24)).alloc (.cells #[.bool false, .slice none 0 0] 24)).lq.b0.fr 0; have q023:=((D.alloc (.cells #[.bool false, .slice none 0 0] 24)).alloc (.cells #[.bool false, .slice none 0 0] 24)).lq.b0.fr 1)); (try (obtain ⟨q100,q101⟩:=D.lq.tl.b0.a2; obtain ⟨q102,q103⟩:=D.lq.tl.b0.f2)); (try (have q110:=(D.alloc (.cells #[.bool false, .slice none 0 0] 24)).lq.tl.b0.c20; have q111:=(D.alloc (.cells #[.bool false, .slice none 0 0] 24)).lq.tl.b0.c21; have q112:=(D.alloc (.cells #[.bool false, .slice none 0 0] 24)).lq.tl.b0.fr 0; have q113:=(D.alloc (.cells #[.bool false, .slice none 0 0] 24)).lq.tl.b0.fr 1)); (try (have q120:=((D.alloc (.cells #[.bool false, .slice none 0 0] 24)).alloc (.cells #[.bool false, .slice none 0 0] 24)).lq.tl.b0.c20; have q121:=((D.alloc (.cells #[.bool false, .slice none 0 0] 24)).alloc (.cells #[.bool false, .slice none 0 0] 24)).lq.tl.b0.c21; have q122:=((D.alloc (.cells #[.bool false, .slice none 0 0] 24)).alloc (.cells #[.bool false, .slice none 0 0] 24)).lq.tl.b0.fr 0; have q123:=((D.alloc (.cells #[.bool false, .slice none 0 0] 24)).alloc (.cells #[.bool false, .slice none 0 0] 24)).lq.tl.b0.fr 1)); (try obtain ⟨na, nb, nc, nd, nl⟩:=D.n0); (try obtain ⟨ne, nf, ng', nh, nm⟩:=D.n1); (try obtain ⟨ni, nj⟩:=D.n01)) | (go_at_call 220; (with_reducible refine (H2.out _ _ _ ?_ ?_).mono ?_); (· (first | (with_reducible refine D.getZ ?_; (repeat (first | (with_reducible exact mS) | apply mT))) | (with_reducible refine (D.boxZ false none 0 0).getZ ?_; (repeat (first | (with_reducible exact mS) | apply mT))) | (with_reducible refine (D.boxZ2 false none 0 0 false none 0 0).getZ ?_; (repeat (first | (with_reducible exact mS) | apply mT))) | (with_reducible refine (D0.boxZ false none 0 0).drew.getZ ?_; (repeat (first | (with_reducible exact mS) | apply mT))) | (with_reducible refine (D0.boxZ2 false none 0 0 false none 0 0).drew.getZ ?_; (repeat (first | (with_reducible exact mS) | apply mT))))); (· (first | (with_reducible refine D.getZ ?_; (repeat (first | (with_reducible exact mS) | apply mT))) | (with_reducible refine (D.boxZ false none 0 0).getZ ?_; (repeat (first | (with_reducible exact mS) | apply mT))) | (with_reducible refine (D.boxZ2 false none 0 0 false none 0 0).getZ ?_; (repeat (first | (with_reducible exact mS) | apply mT))) | (with_reducible refine (D0.boxZ false none 0 0).drew.getZ ?_; (repeat (first | (with_reducible exact mS) | apply mT))) | (with_reducible refine (D0.boxZ2 false none 0 0 false none 0 0).drew.getZ ?_; (repeat (first | (with_reducible exact mS) | apply mT))))); rintro e9 wh ⟨vq, vr, rfl, iz, iz2, be⟩; (first | (replace D:=D.step be) | (replace D:=(D.boxMZ hmd false none 0 0).step be) | (replace D:=(D.boxMZ2 hmd false none 0 0 false none 0 0).step be) | (replace D:=(D.boxZ false none 0 0).step be) | (replace D:=(D.boxZ2 false none 0 0 false none 0 0).step be)); have hz:=be.size; (try simp at hz); replace D:=(D.z iz2).z iz; obtain ⟨A8, c8, rfl, _⟩:=iz.form; obtain ⟨A9, c9, rfl, _⟩:=iz2.form; clear iz iz2; (try (obtain ⟨q000,q001⟩:=D.lq.b0.a2; obtain ⟨q002,q003⟩:=D.lq.b0.f2)); (try (have q010:=(D.alloc (.cells #[.bool false, .slice none 0 0] 24)).lq.b0.c20; have q011:=(D.alloc (.cells #[.bool false, .slice none 0 0] 24)).lq.b0.c21; have q012:=(D.alloc (.cells #[.bool false, .slice none 0 0] 24)).lq.b0.fr 0; have q013:=(D.alloc (.cells #[.bool false, .slice none 0 0] 24)).lq.b0.fr 1)); (try (have q020:=((D.alloc (.cells #[.bool false, .slice none 0 0] 24)).alloc (.cells #[.bool false, .slice none 0 0] 24)).lq.b0.c20; have q021:=((D.alloc (.cells #[.bool false, .slice none 0 0] 24)).alloc (.cells #[.bool false, .slice none 0 0] 24)).lq.b0.c21; have q022:=((D.alloc (.cells #[.bool false, .slice none 0 0] 24)).alloc (.cells #[.bool false, .slice none 0 0] 24)).lq.b0.fr 0; have q023:=((D.alloc (.cells #[.bool false, .slice none 0 0] 24)).alloc (.cells #[.bool false, .slice none 0 0] 24)).lq.b0.fr 1)); (try (obtain ⟨q100,q101⟩:=D.lq.tl.b0.a2; obtain ⟨q102,q103⟩:=D.lq.tl.b0.f2)); (try (have q110:=(D.alloc (.cells #[.bool false, .slice none 0 0] 24)).lq.tl.b0.c20; have q111:=(D.alloc (.cells #[.bool false, .slice none 0 0] 24)).lq.tl.b0.c21; have q112:=(D.alloc (.cells #[.bool false, .slice none 0 0] 24)).lq.tl.b0.fr 0; have q113:=(D.alloc (.cells #[.bool false, .slice none 0 0] 24)).lq.tl.b0.fr 1)); (try (have q120:=((D.alloc (.cells #[.bool false, .slice none 0 0] 24)).alloc (.cells #[.bool false, .slice none 0 0] 24)).lq.tl.b0.c20; have q121:=((D.alloc (.cells #[.bool false, .slice none 0 0] 24)).alloc (.cells #[.bool false, .slice none 0 0] 24)).lq.tl.b0.c21; have q122:=((D.alloc (.cells #[.bool false, .slice none 0 0] 24)).alloc (.cells #[.bool false, .slice none 0 0] 24)).lq.tl.b0.fr 0; have q123:=((D.alloc (.cells #[.bool false, .slice none 0 0] 24)).alloc (.cells #[.bool false, .slice none 0 0] 24)).lq.tl.b0.fr 1)); (try obtain ⟨na, nb, nc, nd, nl⟩:=D.n0); (try obtain ⟨ne, nf, ng', nh, nm⟩:=D.n1); (try obtain ⟨ni, nj⟩:=D.n01)))
   all_goals
    go_wp2_with fail
    go_meet
    first
    | ((with_reducible refine made2z_a D ?_ ?_) <;> (repeat (first | (with_reducible exact mS) | apply mT)))
    | ((with_reducible refine made2z_b D ?_ ?_) <;> (repeat (first | (with_reducible exact mS) | apply mT)))
    | ((with_reducible refine made2z_c D ?_ ?_) <;> (repeat (first | (with_reducible exact mS) | apply mT)))
    | ((with_reducible refine made2z_d D ?_ ?_) <;> (repeat (first | (with_reducible exact mS) | apply mT)))
    | ((with_reducible refine made2z_e D ?_ ?_) <;> (repeat (first | (with_reducible exact mS) | apply mT)))
    | ((with_reducible refine made2z_f D ?_ ?_) <;> (repeat (first | (with_reducible exact mS) | apply mT)))
  case rest =>
   obtain ⟨g1, g2, A1, c1, A2, c2, rfl, rfl, hg1, hg2, hg3, bw, hb1, hb2, hz1, hz2⟩:=hcut
   have hg4:=LL.out.b0.lt
   have L:=(((LL.out.step bw).b hb2).b hb1).z hz1
   clear D D0 hmd hz0 hgx Q0 Q1 Q2 GZ GN LL HN H1 H2 hb1 hb2 hz1 hz2 bw
   have e5 : w.heap.size + 1 ≠ g1:=by omega
   have e6 : w.heap.size + 1 ≠ g2:=by omega
   generalize wc = wd at *
   replace L:=L.pull2
   obtain ⟨c00,c01⟩:=L.b0.a2
   obtain ⟨f00,f01⟩:=L.b0.f2
   obtain ⟨c10,c11⟩:=L.tl.b0.a2
   obtain ⟨c20,c21⟩:=L.tl.tl.b0.a2
   obtain ⟨c30,c31,c32⟩:=L.tl.tl.tl.b0.a3
   (try go_wp2_with fail)
   have LP:=L.putZ (by omega) (by simp [e5, e6, Ne.symm e5, Ne.symm e6]) (ng C) A1 (zl C) c1
   obtain ⟨k0,k1⟩:=LP.b0.a2
   unfold put2 at k0 k1
   exact bodyPost_ret (v:=.agg #[.bool (ng C), .slice A1 (zl C) c1]) (by simp [results, Tryz.results167, go_sem, k0, k1]) rfl ⟨_, rfl, LP.getZ (by simp), LP.below⟩

end Go.Proofs.YtiddbhhhmeopeaaGreatDoor


/- The program's grid: the closures over fractions and what is made of them. -/
namespace Go.Proofs.YtiddbhhhmeopeaaGreatDoor
set_option maxHeartbeats 64000000
open Go.RowKit
set_option linter.unusedVariables false
set_option linter.unusedSimpArgs false
set_option maxRecDepth 100000
attribute [local go_sem ↓] Go.wp_at_zero Go.wp_at_succ

theorem gfloorR1_any (a : Int) (d : Nat) (p : Int) (g h : Nat) (A B : Option Addr) (c k : Nat) (w : World) (hx : IsP w (.agg #[.bool (ng a), .slice A (zl a) c, .slice B (len d) k]) a d) (hg : Var w g 65 #[.bool (ng a), .slice A (zl a) c, .slice B (len d) k]) (hh : Var w h 3 #[.int .i64 p]) (la : zl a ≤ 1000) (ld : len d ≤ 1000) (hd : 0 < d) (hp : permB p = true) (hT : Tab w) :
  Calls Tryz.prog 166 #[.pointer (some ⟨g, 0, none⟩), .pointer (some ⟨h, 0, none⟩)] w (RetZ w (cutQ (Rat.divInt a d) p)):=by
 obtain ⟨hpa, hpb⟩:=perm_yes hp
 have hlg:=hg.lt
 have hlh:=hh.lt
 have L0:=(((Lq.mk0 w).q hx).b hg).b hh
 have H1:=Hd9 (fun v W h (hW : Below w.heap.size w W) => gflR_any a d p v W h (by omega) (by omega) hd (by omega) (hT.mono hW))
 generalize cutQ (Rat.divInt a (d : Int)) p = C at *
 clear hx hg hh la ld hd hp hT hpa hpb
 go_enter Tryz.func166, Tryz.ntmps166
 have L:=(L0.varZ (w.heap.size) (by simp) false none 0 0)
 obtain ⟨c00,c01⟩:=L.b0.a2
 obtain ⟨f00,f01⟩:=L.b0.f2
 have c10:=L.tl.b0.c10
 obtain ⟨c20,c21,c22⟩:=L.tl.tl.b0.a3
 (try go_wp2_with fail)
 refine (H1.out _ _ (L.getQ (v:=.agg #[.bool (ng a), .slice A (zl a) c, .slice B (len d) k]) (by simp)) L.below).mono ?_
 rintro e w1 ⟨v9, rfl, iz, be⟩
 clear c00 f00 c01 f01 c10 c20 c21 c22
 replace L:=(L.step be).z iz
 obtain ⟨A9, c9, rfl, _⟩:=iz.form
 clear be iz
 obtain ⟨c00,c01⟩:=L.b0.a2
 obtain ⟨f00,f01⟩:=L.b0.f2
 have c10:=L.tl.b0.c10
 obtain ⟨c20,c21,c22⟩:=L.tl.tl.b0.a3
 (try go_wp2_with fail)
 have LP:=L.putZ (by omega) (by first | (simp; done) | (simp; omega)) (ng C) A9 (zl C) c9
 obtain ⟨k0,k1⟩:=LP.b0.a2
 unfold put2 at k0 k1
 exact bodyPost_ret (v:=.agg #[.bool (ng C), .slice A9 (zl C) c9]) (by simp [results, Tryz.results166, go_sem, k0, k1]) rfl ⟨_, rfl, LP.hz, LP.below⟩
theorem gceilR1_any (a : Int) (d : Nat) (p : Int) (g h : Nat) (A B : Option Addr) (c k : Nat) (w : World) (hx : IsP w (.agg #[.bool (ng a), .slice A (zl a) c, .slice B (len d) k]) a d) (hg : Var w g 65 #[.bool (ng a), .slice A (zl a) c, .slice B (len d) k]) (hh : Var w h 3 #[.int .i64 p]) (la : zl a ≤ 1000) (ld : len d ≤ 1000) (hd : 0 < d) (hp : permB p = true) (hT : Tab w) :
  Calls Tryz.prog 168 #[.pointer (some ⟨g, 0, none⟩), .pointer (some ⟨h, 0, none⟩)] w (RetZ w (-(cutQ (-(Rat.divInt a d)) p))):=by
 obtain ⟨hpa, hpb⟩:=perm_yes hp
 have hlg:=hg.lt
 have hlh:=hh.lt
 have L0:=(((Lq.mk0 w).q hx).b hg).b hh
 have lz:=zl_neg a
 have H0:=Hd9 (fun v W h => pneg_any a d v W h (by omega) (by omega))
 have h1:=fun v W h (hW : Below w.heap.size w W) => gflR_any (-a) d p v W h (by omega) (by omega) hd (by omega) (hT.mono hW)
 have hzc:=zl_cut (-a) d hd p
 rw [← Rat.neg_divInt] at h1 hzc
 obtain ⟨C1, hC1⟩:=nm9 (cutQ (-(Rat.divInt a (d : Int))) p)
 rw [hC1] at h1 hzc ⊢
 have H2:=Hd9 (fun v W h => zneg_any C1 v W h (by omega))
 have H1:=Hd9 h1
 generalize -C1 = C at *
 generalize -a = na at *
 clear h1 hzc hC1 lz hx hg hh la ld hd hp hT hpa hpb
 go_enter Tryz.func168, Tryz.ntmps168
 have L:=(L0.varZ (w.heap.size) (by simp) false none 0 0)
 obtain ⟨c00,c01⟩:=L.b0.a2
 obtain ⟨f00,f01⟩:=L.b0.f2
 have c10:=L.tl.b0.c10
 obtain ⟨c20,c21,c22⟩:=L.tl.tl.b0.a3
 (try go_wp2_with fail)
 replace L:=L.drew
 clear c00 f00 c01 f01 c10 c20 c21 c22
 obtain ⟨c00,c01⟩:=L.b0.a2
 obtain ⟨f00,f01⟩:=L.b0.f2
 have c10:=L.tl.b0.c10
 obtain ⟨c20,c21,c22⟩:=L.tl.tl.b0.a3
 go_region_held3 (fun w' => w'.cell? ⟨g, 0, none⟩ = some (.bool (ng a)) ∧ w'.cell? ⟨g, 1, none⟩ = some (.slice A (zl a) c) ∧ w'.cell? ⟨g, 2, none⟩ = some (.slice B (len d) k) ∧ w'.cell? ⟨h, 0, none⟩ = some (.int .i64 p)) (first | (with_reducible exact ⟨L.tl.tl.b0.c30, L.tl.tl.b0.c31, L.tl.tl.b0.c32, L.tl.b0.c10⟩) | exact ⟨L.tl.tl.b0.c30, L.tl.tl.b0.c31, L.tl.tl.b0.c32, L.tl.b0.c10⟩ | (have LP:=L.putZ (by omega) (by first | (simp; done) | (simp; omega)) (ng C) A9 (zl C) c9; exact ⟨LP.tl.tl.b0.c30, LP.tl.tl.b0.c31, LP.tl.tl.b0.c32, LP.tl.b0.c10⟩)) (first | (go_at_call 170; (with_reducible refine (H0.out _ _ ?_ ).mono ?_); (· (refine L.getQ ?_; (repeat (first | (with_reducible exact mS) | apply mT)))); rintro e wh ⟨vh, rfl, iq, be⟩; replace L:=(L.step be).q iq; clear be iq) | (go_at_call 167; (with_reducible refine (H1.out _ _ ?_ ?_ ).mono ?_); (· (refine L.getQ ?_; (repeat (first | (with_reducible exact mS) | apply mT)))); (· exact L.below); rintro e wh ⟨vh, rfl, iz, be⟩; replace L:=(L.step be).z iz; clear be iz) | (go_at_call 169; (with_reducible refine (H2.out _ _ ?_ ).mono ?_); (· (refine L.getZ ?_; (repeat (first | (with_reducible exact mS) | apply mT)))); rintro e wh ⟨vh, rfl, iz, be⟩; replace L:=(L.step be).z iz; obtain ⟨A9, c9, rfl, _⟩:=iz.form; clear be iz; (try (obtain ⟨x00,x01⟩:=L.b0.a2; obtain ⟨y00,y01⟩:=L.b0.f2))))
 clear c00 f00 c01 f01 c10 c20 c21 c22
 go_wp2_with fail
 have LP:=L.putZ (by omega) (by first | (simp; done) | (simp; omega)) (ng C) A9 (zl C) c9
 obtain ⟨k0,k1⟩:=LP.b0.a2
 unfold put2 at k0 k1
 exact bodyPost_ret (v:=.agg #[.bool (ng C), .slice A9 (zl C) c9]) (by simp [results, Tryz.results168, go_sem, k0, k1]) rfl ⟨_, rfl, LP.hz, LP.below⟩
theorem gfloorR_any (a : Int) (d : Nat) (p : Int) (vx : Value) (w : World) (hx : IsP w vx a d) (la : zl a ≤ 1000) (ld : len d ≤ 1000) (hd : 0 < d) (hp1 : -9223372036854775808 ≤ p) (hp2 : p ≤ 9223372036854775807) (hT : Tab w) :
  Calls Tryz.prog 101 #[vx, .int .i64 p] w (RetDE w (gM (cutQ (Rat.divInt a d) p) p) (gE (cutQ (Rat.divInt a d) p) p) (gR (cutQ (Rat.divInt a d) p) p)):=by
 obtain ⟨A, c, B, k, rfl, hz, _, hn⟩:=hx.form
 have L0:=(Lq.mk0 w).q hx
 have hen : ∀ args w, (callFunc 166 args).run Tryz.prog w = .ok (.enter 166 args) w:=enters_of Tryz.func166 (by kernel_rfl) rfl
 have hzl : permB p = true → zl (cutQ (Rat.divInt a d) p) ≤ 30000:=fun hp => by
  obtain ⟨hpa, hpb⟩:=perm_yes hp
  have hzc:=zl_cut a d hd p
  omega
 have HM:=Hd9 (fun g h W (hW : Below w.heap.size w W) (k1 : IsP W (.agg #[.bool (ng a), .slice A (zl a) c, .slice B (len d) k]) a d) (k2 : Var W g 65 #[.bool (ng a), .slice A (zl a) c, .slice B (len d) k]) (k3 : Var W h 3 #[.int .i64 p]) => gmult_any 166 #[.pointer (some ⟨g, 0, none⟩), .pointer (some ⟨h, 0, none⟩)] hen (cutQ (Rat.divInt a d) p) p hzl W hp1 hp2 (hT.mono hW) (fun hp W2 h2 => gfloorR1_any a d p g h A B c k W2 (k1.mono h2) (k2.mono h2) (k3.mono h2) la ld hd hp ((hT.mono hW).mono h2)))
 clear hzl hx hz hn la ld hd hT
 generalize gM (cutQ (Rat.divInt a d) p) p = M at *
 generalize gE (cutQ (Rat.divInt a d) p) p = E at *
 generalize gR (cutQ (Rat.divInt a d) p) p = R at *
 go_enter Tryz.func101, Tryz.ntmps101
 go_wp2_with fail
 have L:=(((L0.varQ (w.heap.size) (by simp) (ng a) A B (zl a) c (len d) k).var1 (w.heap.size + 1) (by simp) p).varD (w.heap.size + 2) (by simp) false none 0 0 0)
 obtain ⟨c00,c01,c02⟩:=L.b0.a3
 obtain ⟨f00,f01,f02⟩:=L.b0.f3
 have c10:=L.tl.b0.c10
 have f10:=L.tl.b0.fr 0
 obtain ⟨c20,c21,c22⟩:=L.tl.tl.b0.a3
 obtain ⟨f20,f21,f22⟩:=L.tl.tl.b0.f3
 (try go_wp2_with fail)
 refine (HM.out _ _ _ L.below (L.getQ (by simp)) L.tl.tl.b0 L.tl.b0).mono ?_
 rintro e w1 ⟨v8, rfl, id, be⟩
 clear c00 f00 c01 f01 c02 f02 c10 f10 c20 f20 c21 f21 c22 f22
 obtain ⟨A9, c9, rfl, _, in9⟩:=id.form
 replace L:=(L.step be).n in9
 clear be in9 id
 obtain ⟨c00,c01,c02⟩:=L.b0.a3
 obtain ⟨f00,f01,f02⟩:=L.b0.f3
 have c10:=L.tl.b0.c10
 obtain ⟨c20,c21,c22⟩:=L.tl.tl.b0.a3
 (try go_wp2_with fail)
 have LP:=L.putD (by omega) (by first | (simp; done) | (simp; omega)) (ng M) A9 (zl M) c9 (E)
 obtain ⟨k0,k1,k2⟩:=LP.b0.a3
 unfold put3 at k0 k1 k2
 exact bodyPost_ret (v:=.tuple #[.agg #[.bool (ng M), .slice A9 (zl M) c9, .int .i64 (E)], .int .i64 R]) (by simp [results, Tryz.results101, go_sem, k0, k1, k2]) rfl ⟨_, rfl, isD_n LP.hn, LP.below⟩
theorem gceilR_any (a : Int) (d : Nat) (p : Int) (vx : Value) (w : World) (hx : IsP w vx a d) (la : zl a ≤ 1000) (ld : len d ≤ 1000) (hd : 0 < d) (hp1 : -9223372036854775808 ≤ p) (hp2 : p ≤ 9223372036854775807) (hT : Tab w) :
  Calls Tryz.prog 102 #[vx, .int .i64 p] w (RetDE w (gM (-(cutQ (-(Rat.divInt a d)) p)) p) (gE (-(cutQ (-(Rat.divInt a d)) p)) p) (gR (-(cutQ (-(Rat.divInt a d)) p)) p)):=by
 obtain ⟨A, c, B, k, rfl, hz, _, hn⟩:=hx.form
 have L0:=(Lq.mk0 w).q hx
 have hen : ∀ args w, (callFunc 168 args).run Tryz.prog w = .ok (.enter 168 args) w:=enters_of Tryz.func168 (by kernel_rfl) rfl
 have hzl : permB p = true → zl (-(cutQ (-(Rat.divInt a d)) p)) ≤ 30000:=fun hp => by
  obtain ⟨hpa, hpb⟩:=perm_yes hp
  have hz1:=zl_neg a
  have hz2:=zl_cut (-a) d hd p
  rw [← Rat.neg_divInt] at hz2
  have hzc:=zl_neg (cutQ (-(Rat.divInt a (d : Int))) p)
  omega
 have HM:=Hd9 (fun g h W (hW : Below w.heap.size w W) (k1 : IsP W (.agg #[.bool (ng a), .slice A (zl a) c, .slice B (len d) k]) a d) (k2 : Var W g 65 #[.bool (ng a), .slice A (zl a) c, .slice B (len d) k]) (k3 : Var W h 3 #[.int .i64 p]) => gmult_any 168 #[.pointer (some ⟨g, 0, none⟩), .pointer (some ⟨h, 0, none⟩)] hen (-(cutQ (-(Rat.divInt a d)) p)) p hzl W hp1 hp2 (hT.mono hW) (fun hp W2 h2 => gceilR1_any a d p g h A B c k W2 (k1.mono h2) (k2.mono h2) (k3.mono h2) la ld hd hp ((hT.mono hW).mono h2)))
 clear hzl hx hz hn la ld hd hT
 generalize gM (-(cutQ (-(Rat.divInt a d)) p)) p = M at *
 generalize gE (-(cutQ (-(Rat.divInt a d)) p)) p = E at *
 generalize gR (-(cutQ (-(Rat.divInt a d)) p)) p = R at *
 go_enter Tryz.func102, Tryz.ntmps102
 go_wp2_with fail
 have L:=(((L0.varQ (w.heap.size) (by simp) (ng a) A B (zl a) c (len d) k).var1 (w.heap.size + 1) (by simp) p).varD (w.heap.size + 2) (by simp) false none 0 0 0)
 obtain ⟨c00,c01,c02⟩:=L.b0.a3
 obtain ⟨f00,f01,f02⟩:=L.b0.f3
 have c10:=L.tl.b0.c10
 have f10:=L.tl.b0.fr 0
 obtain ⟨c20,c21,c22⟩:=L.tl.tl.b0.a3
 obtain ⟨f20,f21,f22⟩:=L.tl.tl.b0.f3
 (try go_wp2_with fail)
 refine (HM.out _ _ _ L.below (L.getQ (by simp)) L.tl.tl.b0 L.tl.b0).mono ?_
 rintro e w1 ⟨v8, rfl, id, be⟩
 clear c00 f00 c01 f01 c02 f02 c10 f10 c20 f20 c21 f21 c22 f22
 obtain ⟨A9, c9, rfl, _, in9⟩:=id.form
 replace L:=(L.step be).n in9
 clear be in9 id
 obtain ⟨c00,c01,c02⟩:=L.b0.a3
 obtain ⟨f00,f01,f02⟩:=L.b0.f3
 have c10:=L.tl.b0.c10
 obtain ⟨c20,c21,c22⟩:=L.tl.tl.b0.a3
 (try go_wp2_with fail)
 have LP:=L.putD (by omega) (by first | (simp; done) | (simp; omega)) (ng M) A9 (zl M) c9 (E)
 obtain ⟨k0,k1,k2⟩:=LP.b0.a3
 unfold put3 at k0 k1 k2
 exact bodyPost_ret (v:=.tuple #[.agg #[.bool (ng M), .slice A9 (zl M) c9, .int .i64 (E)], .int .i64 R]) (by simp [results, Tryz.results102, go_sem, k0, k1, k2]) rfl ⟨_, rfl, isD_n LP.hn, LP.below⟩

end Go.Proofs.YtiddbhhhmeopeaaGreatDoor


/- The contracts of the program's package grid. -/
namespace Go.Proofs.YtiddbhhhmeopeaaGreatDoor
set_option maxHeartbeats 64000000
open Go.RowKit
set_option linter.unusedVariables false
set_option linter.unusedSimpArgs false
set_option maxRecDepth 100000
attribute [local go_sem ↓] Go.wp_at_zero Go.wp_at_succ


end Go.Proofs.YtiddbhhhmeopeaaGreatDoor

