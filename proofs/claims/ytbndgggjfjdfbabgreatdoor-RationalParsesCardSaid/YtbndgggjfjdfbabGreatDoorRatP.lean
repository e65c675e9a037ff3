/- The program's fractions: lowest, times, Make, Of, Sign, Neg, Mul, Cmp, Div. -/
import Derived.Test.YtbndgggjfjdfbabGreatDoorRatA
import Derived.Test.YtbndgggjfjdfbabGreatDoorBaseS
import Derived.Test.YtbndgggjfjdfbabGreatDoorBaseI
import Derived.Test.YtbndgggjfjdfbabGreatDoorBaseN
import Derived.Deep.RegionHeld3
import Derived.Deep.DrawnRows
namespace Go.Proofs.YtbndgggjfjdfbabGreatDoor
open Go.RowKit
set_option linter.unusedVariables false
set_option linter.unusedSimpArgs false
set_option maxRecDepth 100000
attribute [local go_sem ↓] Go.wp_at_zero Go.wp_at_succ

theorem trimP_any (x : Nat) (v : Value) (w : World) (h : IsN w v x) (hx : len x ≤ 1000000) : Calls Tryz.prog 85 #[v] w (RetN w x) := by
  obtain ⟨A, n, c, rfl, hs⟩ := h
  have hl := hs.len
  rw [length_dig] at hl
  have := trim_any _ A n c w hs (by omega)
  rwa [trim_dig] at this
theorem Lq.swap3 {w0 w : World} {ns : List (Value × Nat)} {zs : List (Value × Int)} {qs : List (Value × Int × Nat)} {bs : List (Nat × TypeId × Array Value)} {p q r : Nat × TypeId × Array Value} (h : Lq w0 w ns zs qs (p :: q :: r :: bs)) : Lq w0 w ns zs qs (q :: r :: p :: bs) :=
  ⟨h.below, h.ns, h.zs, h.qs, fun t ht => h.bs t (by simp only [List.mem_cons] at ht ⊢; rcases ht with h | h | h | h <;> simp [h])⟩
theorem isZ_nat {w : World} {s : Value} {d : Nat} (h : IsN w s d) : IsZ w (.agg #[.bool false, s]) (d : Int) := ⟨s, by rw [ng_nat], by rw [Int.natAbs_natCast]; exact h⟩
theorem divInt_nat (n : Int) (m : Nat) (h : 0 < m) : (Rat.divInt n (m : Int)).num = sg (ng n) (n.natAbs / Nat.gcd n.natAbs m) ∧ (Rat.divInt n (m : Int)).den = m / Nat.gcd n.natAbs m := by
  obtain ⟨e1, e2⟩ := divInt_pair n (m : Int) (by omega)
  rw [e1, e2, ng_nat, Int.natAbs_natCast]
  refine ⟨?_, rfl⟩
  cases ng n <;> rfl
theorem divInt_neg (n m : Int) : Rat.divInt (-n) (-m) = Rat.divInt n m := Rat.neg_divInt_neg n m

set_option maxHeartbeats 1000000 in
theorem plow_any (n : Int) (m : Nat) (vn vm : Value) (w : World) (hn : IsZ w vn n) (hm : IsN w vm m) (ln : zl n ≤ 100000000) (lm : len m ≤ 100000000) (h0 : 0 < m) :
    Calls Tryz.prog 35 #[vn, vm] w (RetQ w (Rat.divInt n (m : Int))) := by
  obtain ⟨A, c, rfl, in1⟩ := hn.form
  obtain ⟨B, d, rfl⟩ := hm.form
  obtain ⟨e1, e2⟩ := divInt_nat n m h0
  unfold RetQ
  rw [e1, e2]
  have HL := Lib.hid (fun W h1 h2 => lowest_any n.natAbs m (.slice A (zl n) c) (.slice B (len m) d) W h1 h2 (Nat.le_trans ln (by omega)) (by omega) h0)
  have hlg : len (n.natAbs / Nat.gcd n.natAbs m) ≤ 100000000 := Nat.le_trans (len_mono (Nat.div_le_self _ _)) ln
  obtain ⟨x, hx⟩ : ∃ x, n.natAbs / Nat.gcd n.natAbs m = x := ⟨_, rfl⟩
  obtain ⟨y, hy⟩ : ∃ y, m / Nat.gcd n.natAbs m = y := ⟨_, rfl⟩
  rw [hx] at HL hlg ⊢
  rw [hy] at HL ⊢
  have L0 := ((Lq.mk0 w).n in1).n hm
  have HS := Lib.hid (fun b v W h => znatN_any b x v W h (by omega))
  clear hn hm in1 e1 e2 hx hy ln lm h0
  go_enter Tryz.func35, Tryz.ntmps35
  go_wp2_with fail
  have L := ((L0.varZ (w.heap.size) (by simp) (ng n) A (zl n) c).varQ (w.heap.size + 1) (by simp) false none none 0 0 0 0)
  have c00 := L.b0.c30
  have f00 := L.b0.fr 0
  have c01 := L.b0.c31
  have f01 := L.b0.fr 1
  have c02 := L.b0.c32
  have f02 := L.b0.fr 2
  have c10 := L.tl.b0.c20
  have c11 := L.tl.b0.c21
  refine (HL.out _ (L.getN (by simp)) (L.getN (by simp))).mono ?_
  rintro e w1 ⟨v1, v2, rfl, o1, o2, be⟩
  clear c00 f00 c01 f01 c02 f02 c10 c11
  have i1 : IsN w1 v1 x := isN_of_own o1 rfl
  have i2 : IsN w1 v2 y := isN_of_own o2 rfl
  obtain ⟨A2, c2, rfl⟩ := i2.form
  replace L := ((L.step be).n i1).n i2
  clear o1 o2 i1 i2 be
  have c00 := L.b0.c30
  have f00 := L.b0.fr 0
  have c01 := L.b0.c31
  have f01 := L.b0.fr 1
  have c02 := L.b0.c32
  have f02 := L.b0.fr 2
  have c10 := L.tl.b0.c20
  have c11 := L.tl.b0.c21
  go_wp2_with fail
  refine (HS.out _ _ _ (L.getN (by simp))).mono ?_
  rintro e w2 ⟨v3, rfl, iz, be⟩
  clear c00 f00 c01 f01 c02 f02 c10 c11
  replace L := (L.step be).z iz
  obtain ⟨A3, c3, rfl, _⟩ := iz.form
  clear be iz
  have c00 := L.b0.c30
  have f00 := L.b0.fr 0
  have c01 := L.b0.c31
  have f01 := L.b0.fr 1
  have c02 := L.b0.c32
  have f02 := L.b0.fr 2
  have c10 := L.tl.b0.c20
  have c11 := L.tl.b0.c21
  go_wp2_with fail
  have LP := L.putQ (by omega) (by first | (simp; done) | (simp; omega)) (ng (sg (ng n) x)) A3 A2 (zl (sg (ng n) x)) c3 (len (y)) c2
  have k0 := LP.b0.c30
  have k1 := LP.b0.c31
  have k2 := LP.b0.c32
  unfold put3 at k0 k1 k2
  exact bodyPost_ret (v := .agg #[.bool (ng (sg (ng n) x)), .slice A3 (zl (sg (ng n) x)) c3, .slice A2 (len (y)) c2]) (by simp [results, Tryz.results35, go_sem, k0, k1, k2]) rfl ⟨_, rfl, isP_of LP.hz (LP.getN (by simp)), LP.below⟩
set_option maxHeartbeats 1000000 in
theorem pmake_zero (n : Int) (vn vm : Value) (w : World) (hn : IsZ w vn n) (hm : IsZ w vm 0) :
    Calls Tryz.prog 9 #[vn, vm] w (RetPE w 0 0 2) := by
  obtain ⟨A, c, rfl, _⟩ := hn.form
  obtain ⟨B, d, rfl, im1⟩ := hm.form
  have L0 := (((Lq.mk0 w).z hn).z hm).n im1
  have HS := Lib.hid (fun W h => zsign_any 0 (.agg #[.bool (ng 0), .slice B (zl 0) d]) W h (by rw [zl_zero]; omega))
  have ec : cmpI 0 0 = 0 := rfl
  rw [ec] at HS
  clear hn hm im1 ec
  go_enter Tryz.func9, Tryz.ntmps9
  go_wp2_with fail
  have L := (((L0.varZ (w.heap.size) (by simp) (ng n) A (zl n) c).varZ (w.heap.size + 1) (by simp) (ng 0) B (zl 0) d).varQ (w.heap.size + 2) (by simp) false none none 0 0 0 0)
  have c00 := L.b0.c30
  have f00 := L.b0.fr 0
  have c01 := L.b0.c31
  have f01 := L.b0.fr 1
  have c02 := L.b0.c32
  have f02 := L.b0.fr 2
  have c10 := L.tl.b0.c20
  have c11 := L.tl.b0.c21
  have c20 := L.tl.tl.b0.c20
  have c21 := L.tl.tl.b0.c21
  refine (HS.out _ (L.getZ (by simp))).mono ?_
  rintro e w1 ⟨rfl, be⟩
  clear c00 f00 c01 f01 c02 f02 c10 c11 c20 c21
  replace L := L.step be
  clear be
  have c00 := L.b0.c30
  have f00 := L.b0.fr 0
  have c01 := L.b0.c31
  have f01 := L.b0.fr 1
  have c02 := L.b0.c32
  have f02 := L.b0.fr 2
  have c10 := L.tl.b0.c20
  have c11 := L.tl.b0.c21
  have c20 := L.tl.tl.b0.c20
  have c21 := L.tl.tl.b0.c21
  go_wp2_with fail
  have LP := L.putQ (by omega) (by simp) false none none 0 0 0 0
  have d0 := LP.b0.c30
  have d1 := LP.b0.c31
  have d2 := LP.b0.c32
  unfold put3 at d0 d1 d2
  exact bodyPost_ret (v := .tuple #[.agg #[.bool false, .slice none 0 0, .slice none 0 0], .int .i64 2]) (by simp [results, Tryz.results9, go_sem, d0, d1, d2]) rfl ⟨_, rfl, isP_zero _, LP.below⟩
set_option maxHeartbeats 1000000 in
theorem pmake_plus (n m : Int) (vn vm : Value) (w : World) (hn : IsZ w vn n) (hm : IsZ w vm m) (ln : zl n ≤ 100000000) (lm : zl m ≤ 100000000) (hm0 : 0 < m) :
    Calls Tryz.prog 9 #[vn, vm] w (RetPE w (Rat.divInt n m).num (Rat.divInt n m).den 0) := by
  obtain ⟨A, c, rfl, _⟩ := hn.form
  obtain ⟨B, d, rfl, im1⟩ := hm.form
  have L0 := (((Lq.mk0 w).z hn).z hm).n im1
  have HS := Lib.hid (fun W h => zsign_any m (.agg #[.bool (ng m), .slice B (zl m) d]) W h (Nat.le_trans lm (by omega)))
  have ec : cmpI m 0 = 1 := by unfold cmpI; (repeat' split) <;> omega
  rw [ec] at HS
  have hng : ng m = false := ng_no (by omega)
  have eD : Rat.divInt n ((m.natAbs : Nat) : Int) = Rat.divInt n m := by
    rw [Int.natAbs_of_nonneg (Int.le_of_lt hm0)]
  have h3 := fun v u W k1 k2 => plow_any n m.natAbs v u W k1 k2 (by omega) lm (by omega)
  rw [eD] at h3
  unfold RetQ at h3
  have H3 := Lib.hid h3
  generalize (Rat.divInt n m).num = rn at *
  generalize (Rat.divInt n m).den = rd at *
  generalize m.natAbs = ma at *
  clear h3 eD ec hn hm im1 ln lm hm0
  rw [hng] at L0 HS ⊢
  clear hng
  go_enter Tryz.func9, Tryz.ntmps9
  go_wp2_with fail
  have L := (((L0.varZ (w.heap.size) (by simp) (ng n) A (zl n) c).varZ (w.heap.size + 1) (by simp) false B (zl m) d).varQ (w.heap.size + 2) (by simp) false none none 0 0 0 0)
  have c00 := L.b0.c30
  have f00 := L.b0.fr 0
  have c01 := L.b0.c31
  have f01 := L.b0.fr 1
  have c02 := L.b0.c32
  have f02 := L.b0.fr 2
  have c10 := L.tl.b0.c20
  have c11 := L.tl.b0.c21
  have c20 := L.tl.tl.b0.c20
  have c21 := L.tl.tl.b0.c21
  refine (HS.out _ (L.getZ (by simp))).mono ?_
  rintro e w1 ⟨rfl, be⟩
  clear c00 f00 c01 f01 c02 f02 c10 c11 c20 c21
  replace L := L.step be
  clear be
  have c00 := L.b0.c30
  have f00 := L.b0.fr 0
  have c01 := L.b0.c31
  have f01 := L.b0.fr 1
  have c02 := L.b0.c32
  have f02 := L.b0.fr 2
  have c10 := L.tl.b0.c20
  have c11 := L.tl.b0.c21
  have c20 := L.tl.tl.b0.c20
  have c21 := L.tl.tl.b0.c21
  go_wp2_with fail
  refine (H3.out _ _ _ (L.getZ (by simp)) (L.getN (by simp))).mono ?_
  rintro e w2 ⟨v3, rfl, iq, be⟩
  clear c00 f00 c01 f01 c02 f02 c10 c11 c20 c21
  replace L := (L.step be).q iq
  obtain ⟨A9, c9, B9, d9, rfl, _, _, _⟩ := iq.form
  clear be iq
  have c00 := L.b0.c30
  have f00 := L.b0.fr 0
  have c01 := L.b0.c31
  have f01 := L.b0.fr 1
  have c02 := L.b0.c32
  have f02 := L.b0.fr 2
  have c10 := L.tl.b0.c20
  have c11 := L.tl.b0.c21
  have c20 := L.tl.tl.b0.c20
  have c21 := L.tl.tl.b0.c21
  go_wp2_with fail
  have LP := L.putQ (by omega) (by first | (simp; done) | (simp; omega)) (ng (rn)) A9 B9 (zl (rn)) c9 (len (rd)) d9
  have k0 := LP.b0.c30
  have k1 := LP.b0.c31
  have k2 := LP.b0.c32
  unfold put3 at k0 k1 k2
  exact bodyPost_ret (v := .tuple #[.agg #[.bool (ng (rn)), .slice A9 (zl (rn)) c9, .slice B9 (len (rd)) d9], .int .i64 0]) (by simp [results, Tryz.results9, go_sem, k0, k1, k2]) rfl ⟨_, rfl, LP.hq, LP.below⟩
set_option maxHeartbeats 1000000 in
theorem pmake_minus (n m : Int) (vn vm : Value) (w : World) (hn : IsZ w vn n) (hm : IsZ w vm m) (ln : zl n ≤ 100000000) (lm : zl m ≤ 100000000) (hm0 : m < 0) :
    Calls Tryz.prog 9 #[vn, vm] w (RetPE w (Rat.divInt n m).num (Rat.divInt n m).den 0) := by
  obtain ⟨A, c, rfl, _⟩ := hn.form
  obtain ⟨B, d, rfl, im1⟩ := hm.form
  have L0 := (((Lq.mk0 w).z hn).z hm).n im1
  have HS := Lib.hid (fun W h => zsign_any m (.agg #[.bool (ng m), .slice B (zl m) d]) W h (Nat.le_trans lm (by omega)))
  have ec : cmpI m 0 = -1 := by unfold cmpI; (repeat' split) <;> omega
  rw [ec] at HS
  have hng : ng m = true := ng_yes hm0
  have hzn := zl_neg n
  have h1 := fun v W h => zneg_any n v W h (Nat.le_trans ln (by omega))
  obtain ⟨nn, hnn⟩ : ∃ nn, -n = nn := ⟨_, rfl⟩
  rw [hnn] at h1 hzn
  have H1 := Lib.hid h1
  clear h1
  have eD : Rat.divInt nn ((m.natAbs : Nat) : Int) = Rat.divInt n m := by
    rw [← hnn, Int.ofNat_natAbs_of_nonpos (Int.le_of_lt hm0), divInt_neg]
  have h3 := fun v u W k1 k2 => plow_any nn m.natAbs v u W k1 k2 (by omega) lm (by omega)
  rw [eD] at h3
  unfold RetQ at h3
  have H3 := Lib.hid h3
  generalize (Rat.divInt n m).num = rn at *
  generalize (Rat.divInt n m).den = rd at *
  generalize m.natAbs = ma at *
  clear h3 eD ec hn hm im1 ln lm hm0 hnn hzn
  rw [hng] at L0 HS ⊢
  clear hng
  go_enter Tryz.func9, Tryz.ntmps9
  go_wp2_with fail
  have L := (((L0.varZ (w.heap.size) (by simp) (ng n) A (zl n) c).varZ (w.heap.size + 1) (by simp) true B (zl m) d).varQ (w.heap.size + 2) (by simp) false none none 0 0 0 0)
  have c00 := L.b0.c30
  have f00 := L.b0.fr 0
  have c01 := L.b0.c31
  have f01 := L.b0.fr 1
  have c02 := L.b0.c32
  have f02 := L.b0.fr 2
  have c10 := L.tl.b0.c20
  have c11 := L.tl.b0.c21
  have c20 := L.tl.tl.b0.c20
  have f20 := L.tl.tl.b0.fr 0
  have c21 := L.tl.tl.b0.c21
  have f21 := L.tl.tl.b0.fr 1
  refine (HS.out _ (L.getZ (by simp))).mono ?_
  rintro e w1 ⟨rfl, be⟩
  clear c00 f00 c01 f01 c02 f02 c10 c11 c20 f20 c21 f21
  replace L := L.step be
  clear be
  have c00 := L.b0.c30
  have f00 := L.b0.fr 0
  have c01 := L.b0.c31
  have f01 := L.b0.fr 1
  have c02 := L.b0.c32
  have f02 := L.b0.fr 2
  have c10 := L.tl.b0.c20
  have c11 := L.tl.b0.c21
  have c20 := L.tl.tl.b0.c20
  have f20 := L.tl.tl.b0.fr 0
  have c21 := L.tl.tl.b0.c21
  have f21 := L.tl.tl.b0.fr 1
  go_wp2_with fail
  refine (H1.out _ _ (L.getZ (by simp))).mono ?_
  rintro e w2 ⟨v1, rfl, iz, be⟩
  clear c00 f00 c01 f01 c02 f02 c10 c11 c20 f20 c21 f21
  replace L := (L.step be).z iz
  obtain ⟨A3, c3, rfl, _⟩ := iz.form
  clear be iz
  have c00 := L.b0.c30
  have f00 := L.b0.fr 0
  have c01 := L.b0.c31
  have f01 := L.b0.fr 1
  have c02 := L.b0.c32
  have f02 := L.b0.fr 2
  have c10 := L.tl.b0.c20
  have c11 := L.tl.b0.c21
  have c20 := L.tl.tl.b0.c20
  have f20 := L.tl.tl.b0.fr 0
  have c21 := L.tl.tl.b0.c21
  have f21 := L.tl.tl.b0.fr 1
  go_wp2_with fail
  have LL := L.pull2.putZ (by omega) (by first | (simp; done) | (simp; omega)) (ng nn) A3 (zl nn) c3
  clear c00 f00 c01 f01 c02 f02 c10 c11 c20 f20 c21 f21
  replace L := LL.swap3
  clear LL
  unfold put2 at L
  have c00 := L.b0.c30
  have f00 := L.b0.fr 0
  have c01 := L.b0.c31
  have f01 := L.b0.fr 1
  have c02 := L.b0.c32
  have f02 := L.b0.fr 2
  have c10 := L.tl.b0.c20
  have c11 := L.tl.b0.c21
  have c20 := L.tl.tl.b0.c20
  have c21 := L.tl.tl.b0.c21
  refine (H3.out _ _ _ (L.getZ (by simp)) (L.getN (by simp))).mono ?_
  rintro e w3 ⟨v3, rfl, iq, be⟩
  clear c00 f00 c01 f01 c02 f02 c10 c11 c20 c21
  replace L := (L.step be).q iq
  obtain ⟨A9, c9, B9, d9, rfl, _, _, _⟩ := iq.form
  clear be iq
  have c00 := L.b0.c30
  have f00 := L.b0.fr 0
  have c01 := L.b0.c31
  have f01 := L.b0.fr 1
  have c02 := L.b0.c32
  have f02 := L.b0.fr 2
  have c10 := L.tl.b0.c20
  have c11 := L.tl.b0.c21
  have c20 := L.tl.tl.b0.c20
  have c21 := L.tl.tl.b0.c21
  go_wp2_with fail
  have LP := L.putQ (by omega) (by first | (simp; done) | (simp; omega)) (ng (rn)) A9 B9 (zl (rn)) c9 (len (rd)) d9
  have k0 := LP.b0.c30
  have k1 := LP.b0.c31
  have k2 := LP.b0.c32
  unfold put3 at k0 k1 k2
  exact bodyPost_ret (v := .tuple #[.agg #[.bool (ng (rn)), .slice A9 (zl (rn)) c9, .slice B9 (len (rd)) d9], .int .i64 0]) (by simp [results, Tryz.results9, go_sem, k0, k1, k2]) rfl ⟨_, rfl, LP.hq, LP.below⟩
theorem pmake_any (n m : Int) (vn vm : Value) (w : World) (hn : IsZ w vn n) (hm : IsZ w vm m) (ln : zl n ≤ 100000000) (lm : zl m ≤ 100000000) (hm0 : m ≠ 0) :
    Calls Tryz.prog 9 #[vn, vm] w (RetPE w (Rat.divInt n m).num (Rat.divInt n m).den 0) := by
  rcases Int.lt_or_gt_of_ne hm0 with h | h
  · exact pmake_minus n m vn vm w hn hm ln lm h
  · exact pmake_plus n m vn vm w hn hm ln lm h

set_option maxHeartbeats 1000000 in
theorem psign_any (a : Int) (d : Nat) (vx : Value) (w : World) (hx : IsP w vx a d) (la : zl a ≤ 100000000) :
    Calls Tryz.prog 47 #[vx] w (RetI w (cmpI a 0)) := by
  obtain ⟨A, c, B, g, rfl, hz, _, _⟩ := hx.form
  have HS := Lib.hid (fun W h => zsign_any a (.agg #[.bool (ng a), .slice A (zl a) c]) W h (by omega))
  have L0 := (Lq.mk0 w).z hz
  clear hx hz
  generalize cmpI a 0 = k at *
  go_enter Tryz.func47, Tryz.ntmps47
  go_wp2_with fail
  have L := (L0.varQ (w.heap.size) (by simp) (ng a) A B (zl a) c (len d) g)
  have c00 := L.b0.c30
  have f00 := L.b0.fr 0
  have c01 := L.b0.c31
  have f01 := L.b0.fr 1
  have c02 := L.b0.c32
  have f02 := L.b0.fr 2
  refine (HS.out _ (L.getZ (by simp))).mono ?_
  rintro e w1 ⟨rfl, be⟩
  clear c00 f00 c01 f01 c02 f02
  replace L := L.step be
  clear be
  go_wp2_with fail
  go_ret
  exact ⟨rfl, L.below⟩
end Go.Proofs.YtbndgggjfjdfbabGreatDoor
