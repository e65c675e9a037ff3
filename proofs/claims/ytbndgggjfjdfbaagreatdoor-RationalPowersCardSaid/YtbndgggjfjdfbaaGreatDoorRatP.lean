/- The program's fractions: lowest, times, Make, Of, Sign, Neg, Mul, Cmp, Div. -/
import Derived.Test.YtbndgggjfjdfbaaGreatDoorRatA
import Derived.Test.YtbndgggjfjdfbaaGreatDoorBaseS
import Derived.Test.YtbndgggjfjdfbaaGreatDoorBaseI
import Derived.Test.YtbndgggjfjdfbaaGreatDoorBaseN
import Derived.Deep.RegionHeld3
import Derived.Deep.DrawnRows
namespace Go.Proofs.YtbndgggjfjdfbaaGreatDoor
open Go.RowKit
set_option linter.unusedVariables false
set_option linter.unusedSimpArgs false
set_option maxRecDepth 100000
attribute [local go_sem ↓] Go.wp_at_zero Go.wp_at_succ

theorem trimP_any (x : Nat) (v : Value) (w : World) (h : IsN w v x) (hx : len x ≤ 1000000) : Calls Tryz.prog 67 #[v] w (RetN w x) := by
  obtain ⟨A, n, c, rfl, hs⟩ := h
  have hl := hs.len
  rw [length_dig] at hl
  have := trim_any _ A n c w hs (by omega)
  rwa [trim_dig] at this
theorem Lq.swap3 {w0 w : World} {ns : List (Value × Nat)} {zs : List (Value × Int)} {qs : List (Value × Int × Nat)} {bs : List (Nat × TypeId × Array Value)} {p q r : Nat × TypeId × Array Value} (h : Lq w0 w ns zs qs (p :: q :: r :: bs)) : Lq w0 w ns zs qs (q :: r :: p :: bs) :=
  ⟨h.below, h.ns, h.zs, h.qs, fun t ht => h.bs t (by simp only [List.mem_cons] at ht ⊢; rcases ht with h | h | h | h <;> simp [h])⟩
theorem isZ_nat {w : World} {s : Value} {d : Nat} (h : IsN w s d) : IsZ w (.agg #[.bool false, s]) (d : Int) := ⟨s, by rw [ng_nat], by rw [Int.natAbs_natCast]; exact h⟩
theorem divInt_nat (n : Int) (m : Nat) (h : 0 < m) : (Rat.divInt n (m : Int)).num = sg (ng n) (n.natAbs / Nat.gcd n.natAbs m) ∧ (Rat.divInt n (m : Int)).den = m / Nat.gcd n.natAbs m := by
  obtain ⟨e1, e2⟩ := divInt_pair n (m : Int) (by omega)
  rw [e1, e2, ng_nat, Int.natAbs_natCast]
  refine ⟨?_, rfl⟩
  cases ng n <;> rfl
theorem divInt_neg (n m : Int) : Rat.divInt (-n) (-m) = Rat.divInt n m := Rat.neg_divInt_neg n m

set_option maxHeartbeats 1000000 in
theorem plow_any (n : Int) (m : Nat) (vn vm : Value) (w : World) (hn : IsZ w vn n) (hm : IsN w vm m) (ln : zl n ≤ 100000000) (lm : len m ≤ 100000000) (h0 : 0 < m) :
    Calls Tryz.prog 47 #[vn, vm] w (RetQ w (Rat.divInt n (m : Int))) := by
  obtain ⟨A, c, rfl, in1⟩ := hn.form
  obtain ⟨B, d, rfl⟩ := hm.form
  obtain ⟨e1, e2⟩ := divInt_nat n m h0
  unfold RetQ
  rw [e1, e2]
  have HL := Lib.hid (fun W h1 h2 => lowest_any n.natAbs m (.slice A (zl n) c) (.slice B (len m) d) W h1 h2 (Nat.le_trans ln (by omega)) (by omega) h0)
  have hlg : len (n.natAbs / Nat.gcd n.natAbs m) ≤ 100000000 := Nat.le_trans (len_mono (Nat.div_le_self _ _)) ln
  obtain ⟨x, hx⟩ : ∃ x, n.natAbs / Nat.gcd n.natAbs m = x := ⟨_, rfl⟩
  obtain ⟨y, hy⟩ : ∃ y, m / Nat.gcd n.natAbs m = y := ⟨_, rfl⟩
  rw [hx] at HL hlg ⊢
  rw [hy] at HL ⊢
  have L0 := ((Lq.mk0 w).n in1).n hm
  have HS := Lib.hid (fun b v W h => znatN_any b x v W h (by omega))
  clear hn hm in1 e1 e2 hx hy ln lm h0
  go_enter Tryz.func47, Tryz.ntmps47
  go_wp2_with fail
  have L := ((L0.varZ (w.heap.size) (by simp) (ng n) A (zl n) c).varQ (w.heap.size + 1) (by simp) false none none 0 0 0 0)
  have c00 := L.b0.c30
  have f00 := L.b0.fr 0
  have c01 := L.b0.c31
  have f01 := L.b0.fr 1
  have c02 := L.b0.c32
  have f02 := L.b0.fr 2
  have c10 := L.tl.b0.c20
  have c11 := L.tl.b0.c21
  refine (HL.out _ (L.getN (by simp)) (L.getN (by simp))).mono ?_
  rintro e w1 ⟨v1, v2, rfl, o1, o2, be⟩
  clear c00 f00 c01 f01 c02 f02 c10 c11
  have i1 : IsN w1 v1 x := isN_of_own o1 rfl
  have i2 : IsN w1 v2 y := isN_of_own o2 rfl
  obtain ⟨A2, c2, rfl⟩ := i2.form
  replace L := ((L.step be).n i1).n i2
  clear o1 o2 i1 i2 be
  have c00 := L.b0.c30
  have f00 := L.b0.fr 0
  have c01 := L.b0.c31
  have f01 := L.b0.fr 1
  have c02 := L.b0.c32
  have f02 := L.b0.fr 2
  have c10 := L.tl.b0.c20
  have c11 := L.tl.b0.c21
  go_wp2_with fail
  refine (HS.out _ _ _ (L.getN (by simp))).mono ?_
  rintro e w2 ⟨v3, rfl, iz, be⟩
  clear c00 f00 c01 f01 c02 f02 c10 c11
  replace L := (L.step be).z iz
  obtain ⟨A3, c3, rfl, _⟩ := iz.form
  clear be iz
  have c00 := L.b0.c30
  have f00 := L.b0.fr 0
  have c01 := L.b0.c31
  have f01 := L.b0.fr 1
  have c02 := L.b0.c32
  have f02 := L.b0.fr 2
  have c10 := L.tl.b0.c20
  have c11 := L.tl.b0.c21
  go_wp2_with fail
  have LP := L.putQ (by omega) (by first | (simp; done) | (simp; omega)) (ng (sg (ng n) x)) A3 A2 (zl (sg (ng n) x)) c3 (len (y)) c2
  have k0 := LP.b0.c30
  have k1 := LP.b0.c31
  have k2 := LP.b0.c32
  unfold put3 at k0 k1 k2
  exact bodyPost_ret (v := .agg #[.bool (ng (sg (ng n) x)), .slice A3 (zl (sg (ng n) x)) c3, .slice A2 (len (y)) c2]) (by simp [results, Tryz.results47, go_sem, k0, k1, k2]) rfl ⟨_, rfl, isP_of LP.hz (LP.getN (by simp)), LP.below⟩
set_option maxHeartbeats 1000000 in
theorem ptimes_any (a : Int) (d : Nat) (vx va : Value) (w : World) (hx : IsZ w vx a) (hd : IsN w va d) (la : zl a ≤ 100000000) (ld : len d ≤ 100000000) :
    Calls Tryz.prog 59 #[vx, va] w (RetZ w (a * (d : Int))) := by
  obtain ⟨A, c, rfl, _⟩ := hx.form
  obtain ⟨B, g, rfl⟩ := hd.form
  have hz := isZ_nat hd
  have ld' : zl (d : Int) ≤ 100000000 := ld
  have HM := Lib.hid (fun v u W h1 h2 => zmul_any a (d : Int) v u W h1 h2 (by omega) (by omega))
  have L0 := ((Lq.mk0 w).z hx).z hz
  generalize a * (d : Int) = p at *
  clear hx hd hz la ld ld'
  go_enter Tryz.func59, Tryz.ntmps59
  go_wp2_with fail
  have L := ((L0.varZ (w.heap.size) (by simp) (ng a) A (zl a) c).varZ (w.heap.size + 1) (by simp) false none 0 0)
  have c00 := L.b0.c20
  have f00 := L.b0.fr 0
  have c01 := L.b0.c21
  have f01 := L.b0.fr 1
  have c10 := L.tl.b0.c20
  have c11 := L.tl.b0.c21
  refine (HM.out _ _ _ (L.getZ (by simp)) (L.getZ (by simp))).mono ?_
  rintro e w1 ⟨v1, rfl, iz, be⟩
  clear c00 f00 c01 f01 c10 c11
  replace L := (L.step be).z iz
  obtain ⟨A3, c3, rfl, _⟩ := iz.form
  clear be iz
  have c00 := L.b0.c20
  have f00 := L.b0.fr 0
  have c01 := L.b0.c21
  have f01 := L.b0.fr 1
  have c10 := L.tl.b0.c20
  have c11 := L.tl.b0.c21
  go_wp2_with fail
  have LP := L.putZ (by omega) (by first | (simp; done) | (simp; omega)) (ng (p)) A3 (zl (p)) c3
  have k0 := LP.b0.c20
  have k1 := LP.b0.c21
  unfold put2 at k0 k1
  exact bodyPost_ret (v := .agg #[.bool (ng (p)), .slice A3 (zl (p)) c3]) (by simp [results, Tryz.results59, go_sem, k0, k1]) rfl ⟨_, rfl, LP.hz, LP.below⟩
set_option maxHeartbeats 1000000 in
theorem pmake_zero (n : Int) (vn vm : Value) (w : World) (hn : IsZ w vn n) (hm : IsZ w vm 0) :
    Calls Tryz.prog 11 #[vn, vm] w (RetPE w 0 0 2) := by
  obtain ⟨A, c, rfl, _⟩ := hn.form
  obtain ⟨B, d, rfl, im1⟩ := hm.form
  have L0 := (((Lq.mk0 w).z hn).z hm).n im1
  have HS := Lib.hid (fun W h => zsign_any 0 (.agg #[.bool (ng 0), .slice B (zl 0) d]) W h (by rw [zl_zero]; omega))
  have ec : cmpI 0 0 = 0 := rfl
  rw [ec] at HS
  clear hn hm im1 ec
  go_enter Tryz.func11, Tryz.ntmps11
  go_wp2_with fail
  have L := (((L0.varZ (w.heap.size) (by simp) (ng n) A (zl n) c).varZ (w.heap.size + 1) (by simp) (ng 0) B (zl 0) d).varQ (w.heap.size + 2) (by simp) false none none 0 0 0 0)
  have c00 := L.b0.c30
  have f00 := L.b0.fr 0
  have c01 := L.b0.c31
  have f01 := L.b0.fr 1
  have c02 := L.b0.c32
  have f02 := L.b0.fr 2
  have c10 := L.tl.b0.c20
  have c11 := L.tl.b0.c21
  have c20 := L.tl.tl.b0.c20
  have c21 := L.tl.tl.b0.c21
  refine (HS.out _ (L.getZ (by simp))).mono ?_
  rintro e w1 ⟨rfl, be⟩
  clear c00 f00 c01 f01 c02 f02 c10 c11 c20 c21
  replace L := L.step be
  clear be
  have c00 := L.b0.c30
  have f00 := L.b0.fr 0
  have c01 := L.b0.c31
  have f01 := L.b0.fr 1
  have c02 := L.b0.c32
  have f02 := L.b0.fr 2
  have c10 := L.tl.b0.c20
  have c11 := L.tl.b0.c21
  have c20 := L.tl.tl.b0.c20
  have c21 := L.tl.tl.b0.c21
  go_wp2_with fail
  have LP := L.putQ (by omega) (by simp) false none none 0 0 0 0
  have d0 := LP.b0.c30
  have d1 := LP.b0.c31
  have d2 := LP.b0.c32
  unfold put3 at d0 d1 d2
  exact bodyPost_ret (v := .tuple #[.agg #[.bool false, .slice none 0 0, .slice none 0 0], .int .i64 2]) (by simp [results, Tryz.results11, go_sem, d0, d1, d2]) rfl ⟨_, rfl, isP_zero _, LP.below⟩
set_option maxHeartbeats 1000000 in
theorem pmake_plus (n m : Int) (vn vm : Value) (w : World) (hn : IsZ w vn n) (hm : IsZ w vm m) (ln : zl n ≤ 100000000) (lm : zl m ≤ 100000000) (hm0 : 0 < m) :
    Calls Tryz.prog 11 #[vn, vm] w (RetPE w (Rat.divInt n m).num (Rat.divInt n m).den 0) := by
  obtain ⟨A, c, rfl, _⟩ := hn.form
  obtain ⟨B, d, rfl, im1⟩ := hm.form
  have L0 := (((Lq.mk0 w).z hn).z hm).n im1
  have HS := Lib.hid (fun W h => zsign_any m (.agg #[.bool (ng m), .slice B (zl m) d]) W h (Nat.le_trans lm (by omega)))
  have ec : cmpI m 0 = 1 := by unfold cmpI; (repeat' split) <;> omega
  rw [ec] at HS
  have hng : ng m = false := ng_no (by omega)
  have eD : Rat.divInt n ((m.natAbs : Nat) : Int) = Rat.divInt n m := by
    rw [Int.natAbs_of_nonneg (Int.le_of_lt hm0)]
  have h3 := fun v u W k1 k2 => plow_any n m.natAbs v u W k1 k2 (by omega) lm (by omega)
  rw [eD] at h3
  unfold RetQ at h3
  have H3 := Lib.hid h3
  generalize (Rat.divInt n m).num = rn at *
  generalize (Rat.divInt n m).den = rd at *
  generalize m.natAbs = ma at *
  clear h3 eD ec hn hm im1 ln lm hm0
  rw [hng] at L0 HS ⊢
  clear hng
  go_enter Tryz.func11, Tryz.ntmps11
  go_wp2_with fail
  have L := (((L0.varZ (w.heap.size) (by simp) (ng n) A (zl n) c).varZ (w.heap.size + 1) (by simp) false B (zl m) d).varQ (w.heap.size + 2) (by simp) false none none 0 0 0 0)
  have c00 := L.b0.c30
  have f00 := L.b0.fr 0
  have c01 := L.b0.c31
  have f01 := L.b0.fr 1
  have c02 := L.b0.c32
  have f02 := L.b0.fr 2
  have c10 := L.tl.b0.c20
  have c11 := L.tl.b0.c21
  have c20 := L.tl.tl.b0.c20
  have c21 := L.tl.tl.b0.c21
  refine (HS.out _ (L.getZ (by simp))).mono ?_
  rintro e w1 ⟨rfl, be⟩
  clear c00 f00 c01 f01 c02 f02 c10 c11 c20 c21
  replace L := L.step be
  clear be
  have c00 := L.b0.c30
  have f00 := L.b0.fr 0
  have c01 := L.b0.c31
  have f01 := L.b0.fr 1
  have c02 := L.b0.c32
  have f02 := L.b0.fr 2
  have c10 := L.tl.b0.c20
  have c11 := L.tl.b0.c21
  have c20 := L.tl.tl.b0.c20
  have c21 := L.tl.tl.b0.c21
  go_wp2_with fail
  refine (H3.out _ _ _ (L.getZ (by simp)) (L.getN (by simp))).mono ?_
  rintro e w2 ⟨v3, rfl, iq, be⟩
  clear c00 f00 c01 f01 c02 f02 c10 c11 c20 c21
  replace L := (L.step be).q iq
  obtain ⟨A9, c9, B9, d9, rfl, _, _, _⟩ := iq.form
  clear be iq
  have c00 := L.b0.c30
  have f00 := L.b0.fr 0
  have c01 := L.b0.c31
  have f01 := L.b0.fr 1
  have c02 := L.b0.c32
  have f02 := L.b0.fr 2
  have c10 := L.tl.b0.c20
  have c11 := L.tl.b0.c21
  have c20 := L.tl.tl.b0.c20
  have c21 := L.tl.tl.b0.c21
  go_wp2_with fail
  have LP := L.putQ (by omega) (by first | (simp; done) | (simp; omega)) (ng (rn)) A9 B9 (zl (rn)) c9 (len (rd)) d9
  have k0 := LP.b0.c30
  have k1 := LP.b0.c31
  have k2 := LP.b0.c32
  unfold put3 at k0 k1 k2
  exact bodyPost_ret (v := .tuple #[.agg #[.bool (ng (rn)), .slice A9 (zl (rn)) c9, .slice B9 (len (rd)) d9], .int .i64 0]) (by simp [results, Tryz.results11, go_sem, k0, k1, k2]) rfl ⟨_, rfl, LP.hq, LP.below⟩
set_option maxHeartbeats 1000000 in
theorem pmake_minus (n m : Int) (vn vm : Value) (w : World) (hn : IsZ w vn n) (hm : IsZ w vm m) (ln : zl n ≤ 100000000) (lm : zl m ≤ 100000000) (hm0 : m < 0) :
    Calls Tryz.prog 11 #[vn, vm] w (RetPE w (Rat.divInt n m).num (Rat.divInt n m).den 0) := by
  obtain ⟨A, c, rfl, _⟩ := hn.form
  obtain ⟨B, d, rfl, im1⟩ := hm.form
  have L0 := (((Lq.mk0 w).z hn).z hm).n im1
  have HS := Lib.hid (fun W h => zsign_any m (.agg #[.bool (ng m), .slice B (zl m) d]) W h (Nat.le_trans lm (by omega)))
  have ec : cmpI m 0 = -1 := by unfold cmpI; (repeat' split) <;> omega
  rw [ec] at HS
  have hng : ng m = true := ng_yes hm0
  have hzn := zl_neg n
  have h1 := fun v W h => zneg_any n v W h (Nat.le_trans ln (by omega))
  obtain ⟨nn, hnn⟩ : ∃ nn, -n = nn := ⟨_, rfl⟩
  rw [hnn] at h1 hzn
  have H1 := Lib.hid h1
  clear h1
  have eD : Rat.divInt nn ((m.natAbs : Nat) : Int) = Rat.divInt n m := by
    rw [← hnn, Int.ofNat_natAbs_of_nonpos (Int.le_of_lt hm0), divInt_neg]
  have h3 := fun v u W k1 k2 => plow_any nn m.natAbs v u W k1 k2 (by omega) lm (by omega)
  rw [eD] at h3
  unfold RetQ at h3
  have H3 := Lib.hid h3
  generalize (Rat.divInt n m).num = rn at *
  generalize (Rat.divInt n m).den = rd at *
  generalize m.natAbs = ma at *
  clear h3 eD ec hn hm im1 ln lm hm0 hnn hzn
  rw [hng] at L0 HS ⊢
  clear hng
  go_enter Tryz.func11, Tryz.ntmps11
  go_wp2_with fail
  have L := (((L0.varZ (w.heap.size) (by simp) (ng n) A (zl n) c).varZ (w.heap.size + 1) (by simp) true B (zl m) d).varQ (w.heap.size + 2) (by simp) false none none 0 0 0 0)
  have c00 := L.b0.c30
  have f00 := L.b0.fr 0
  have c01 := L.b0.c31
  have f01 := L.b0.fr 1
  have c02 := L.b0.c32
  have f02 := L.b0.fr 2
  have c10 := L.tl.b0.c20
  have c11 := L.tl.b0.c21
  have c20 := L.tl.tl.b0.c20
  have f20 := L.tl.tl.b0.fr 0
  have c21 := L.tl.tl.b0.c21
  have f21 := L.tl.tl.b0.fr 1
  refine (HS.out _ (L.getZ (by simp))).mono ?_
  rintro e w1 ⟨rfl, be⟩
  clear c00 f00 c01 f01 c02 f02 c10 c11 c20 f20 c21 f21
  replace L := L.step be
  clear be
  have c00 := L.b0.c30
  have f00 := L.b0.fr 0
  have c01 := L.b0.c31
  have f01 := L.b0.fr 1
  have c02 := L.b0.c32
  have f02 := L.b0.fr 2
  have c10 := L.tl.b0.c20
  have c11 := L.tl.b0.c21
  have c20 := L.tl.tl.b0.c20
  have f20 := L.tl.tl.b0.fr 0
  have c21 := L.tl.tl.b0.c21
  have f21 := L.tl.tl.b0.fr 1
  go_wp2_with fail
  refine (H1.out _ _ (L.getZ (by simp))).mono ?_
  rintro e w2 ⟨v1, rfl, iz, be⟩
  clear c00 f00 c01 f01 c02 f02 c10 c11 c20 f20 c21 f21
  replace L := (L.step be).z iz
  obtain ⟨A3, c3, rfl, _⟩ := iz.form
  clear be iz
  have c00 := L.b0.c30
  have f00 := L.b0.fr 0
  have c01 := L.b0.c31
  have f01 := L.b0.fr 1
  have c02 := L.b0.c32
  have f02 := L.b0.fr 2
  have c10 := L.tl.b0.c20
  have c11 := L.tl.b0.c21
  have c20 := L.tl.tl.b0.c20
  have f20 := L.tl.tl.b0.fr 0
  have c21 := L.tl.tl.b0.c21
  have f21 := L.tl.tl.b0.fr 1
  go_wp2_with fail
  have LL := L.pull2.putZ (by omega) (by first | (simp; done) | (simp; omega)) (ng nn) A3 (zl nn) c3
  clear c00 f00 c01 f01 c02 f02 c10 c11 c20 f20 c21 f21
  replace L := LL.swap3
  clear LL
  unfold put2 at L
  have c00 := L.b0.c30
  have f00 := L.b0.fr 0
  have c01 := L.b0.c31
  have f01 := L.b0.fr 1
  have c02 := L.b0.c32
  have f02 := L.b0.fr 2
  have c10 := L.tl.b0.c20
  have c11 := L.tl.b0.c21
  have c20 := L.tl.tl.b0.c20
  have c21 := L.tl.tl.b0.c21
  refine (H3.out _ _ _ (L.getZ (by simp)) (L.getN (by simp))).mono ?_
  rintro e w3 ⟨v3, rfl, iq, be⟩
  clear c00 f00 c01 f01 c02 f02 c10 c11 c20 c21
  replace L := (L.step be).q iq
  obtain ⟨A9, c9, B9, d9, rfl, _, _, _⟩ := iq.form
  clear be iq
  have c00 := L.b0.c30
  have f00 := L.b0.fr 0
  have c01 := L.b0.c31
  have f01 := L.b0.fr 1
  have c02 := L.b0.c32
  have f02 := L.b0.fr 2
  have c10 := L.tl.b0.c20
  have c11 := L.tl.b0.c21
  have c20 := L.tl.tl.b0.c20
  have c21 := L.tl.tl.b0.c21
  go_wp2_with fail
  have LP := L.putQ (by omega) (by first | (simp; done) | (simp; omega)) (ng (rn)) A9 B9 (zl (rn)) c9 (len (rd)) d9
  have k0 := LP.b0.c30
  have k1 := LP.b0.c31
  have k2 := LP.b0.c32
  unfold put3 at k0 k1 k2
  exact bodyPost_ret (v := .tuple #[.agg #[.bool (ng (rn)), .slice A9 (zl (rn)) c9, .slice B9 (len (rd)) d9], .int .i64 0]) (by simp [results, Tryz.results11, go_sem, k0, k1, k2]) rfl ⟨_, rfl, LP.hq, LP.below⟩
theorem pmake_any (n m : Int) (vn vm : Value) (w : World) (hn : IsZ w vn n) (hm : IsZ w vm m) (ln : zl n ≤ 100000000) (lm : zl m ≤ 100000000) (hm0 : m ≠ 0) :
    Calls Tryz.prog 11 #[vn, vm] w (RetPE w (Rat.divInt n m).num (Rat.divInt n m).den 0) := by
  rcases Int.lt_or_gt_of_ne hm0 with h | h
  · exact pmake_minus n m vn vm w hn hm ln lm h
  · exact pmake_plus n m vn vm w hn hm ln lm h

set_option maxHeartbeats 1000000 in
theorem pof_any (n : Int) (w : World) (h1 : -9223372036854775808 ≤ n) (h2 : n ≤ 9223372036854775807) :
    Calls Tryz.prog 27 #[.int .i64 n] w (RetQ w (n : Rat)) := by
  have H1 := Lib.hid (fun W => zof_any n W h1 h2)
  have H2 := Lib.hid (fun W => of_any 1 W (by omega))
  have e1 : (n : Rat).num = n := rfl
  have e2 : (n : Rat).den = 1 := rfl
  unfold RetQ
  rw [e1, e2]
  clear h1 h2 e1 e2
  go_enter Tryz.func27, Tryz.ntmps27
  go_wp2_with fail
  have L := ((Lq.mk0 w).varQ (w.heap.size) (by simp) false none none 0 0 0 0)
  have c00 := L.b0.c30
  have f00 := L.b0.fr 0
  have c01 := L.b0.c31
  have f01 := L.b0.fr 1
  have c02 := L.b0.c32
  have f02 := L.b0.fr 2
  refine (H1.out _).mono ?_
  rintro e w1 ⟨v1, rfl, iz, be⟩
  clear c00 f00 c01 f01 c02 f02
  replace L := (L.step be).z iz
  obtain ⟨A9, c9, rfl, _⟩ := iz.form
  clear be iz
  have c00 := L.b0.c30
  have f00 := L.b0.fr 0
  have c01 := L.b0.c31
  have f01 := L.b0.fr 1
  have c02 := L.b0.c32
  have f02 := L.b0.fr 2
  go_wp2_with fail
  refine (H2.out _).mono ?_
  rintro e w2 ⟨v2, rfl, o⟩
  clear c00 f00 c01 f01 c02 f02
  replace L := (L.step o.below).n o.isN
  clear o
  obtain ⟨B9, d9, rfl⟩ := L.hn.form
  have c00 := L.b0.c30
  have f00 := L.b0.fr 0
  have c01 := L.b0.c31
  have f01 := L.b0.fr 1
  have c02 := L.b0.c32
  have f02 := L.b0.fr 2
  go_wp2_with fail
  have LP := L.putQ (by omega) (by first | (simp; done) | (simp; omega)) (ng (n)) A9 B9 (zl (n)) c9 (len (1)) d9
  have k0 := LP.b0.c30
  have k1 := LP.b0.c31
  have k2 := LP.b0.c32
  unfold put3 at k0 k1 k2
  exact bodyPost_ret (v := .agg #[.bool (ng (n)), .slice A9 (zl (n)) c9, .slice B9 (len (1)) d9]) (by simp [results, Tryz.results27, go_sem, k0, k1, k2]) rfl ⟨_, rfl, isP_of LP.hz LP.hn, LP.below⟩
set_option maxHeartbeats 1000000 in
theorem psign_any (a : Int) (d : Nat) (vx : Value) (w : World) (hx : IsP w vx a d) (la : zl a ≤ 100000000) :
    Calls Tryz.prog 30 #[vx] w (RetI w (cmpI a 0)) := by
  obtain ⟨A, c, B, g, rfl, hz, _, _⟩ := hx.form
  have HS := Lib.hid (fun W h => zsign_any a (.agg #[.bool (ng a), .slice A (zl a) c]) W h (by omega))
  have L0 := (Lq.mk0 w).z hz
  clear hx hz
  generalize cmpI a 0 = k at *
  go_enter Tryz.func30, Tryz.ntmps30
  go_wp2_with fail
  have L := (L0.varQ (w.heap.size) (by simp) (ng a) A B (zl a) c (len d) g)
  have c00 := L.b0.c30
  have f00 := L.b0.fr 0
  have c01 := L.b0.c31
  have f01 := L.b0.fr 1
  have c02 := L.b0.c32
  have f02 := L.b0.fr 2
  refine (HS.out _ (L.getZ (by simp))).mono ?_
  rintro e w1 ⟨rfl, be⟩
  clear c00 f00 c01 f01 c02 f02
  replace L := L.step be
  clear be
  go_wp2_with fail
  go_ret
  exact ⟨rfl, L.below⟩
set_option maxHeartbeats 2000000 in
theorem pneg_any (a : Int) (d : Nat) (vx : Value) (w : World) (hx : IsP w vx a d) (la : zl a ≤ 1000000) (ld : len d ≤ 1000000) :
    Calls Tryz.prog 25 #[vx] w (RetP w (-a) d) := by
  obtain ⟨A, c, B, g, rfl, hz, _, hd⟩ := hx.form
  have h1 := fun v W h => zneg_any a v W h (by omega)
  have H2 := Lib.hid (fun v W h => trimP_any d v W h ld)
  have L0 := ((Lq.mk0 w).z hz).n hd
  obtain ⟨na, hna⟩ : ∃ na, -a = na := ⟨_, rfl⟩
  rw [hna] at h1 ⊢
  have H1 := Lib.hid h1
  clear hx hz hd h1 hna
  go_enter Tryz.func25, Tryz.ntmps25
  go_wp2_with fail
  have L := ((L0.varQ (w.heap.size) (by simp) (ng a) A B (zl a) c (len d) g).varQ (w.heap.size + 1) (by simp) false none none 0 0 0 0)
  replace L := L.drew
  have c00 := L.b0.c30
  have f00 := L.b0.fr 0
  have c01 := L.b0.c31
  have f01 := L.b0.fr 1
  have c02 := L.b0.c32
  have f02 := L.b0.fr 2
  have c10 := L.tl.b0.c30
  have c11 := L.tl.b0.c31
  have c12 := L.tl.b0.c32
  go_region_held3 (fun w' => w'.cell? ⟨w.heap.size, 0, none⟩ = some (.bool (ng a)) ∧ w'.cell? ⟨w.heap.size, 1, none⟩ = some (.slice A (zl a) c) ∧ w'.cell? ⟨w.heap.size, 2, none⟩ = some (.slice B (len d) g)) (first | (with_reducible exact ⟨L.tl.b0.c30, L.tl.b0.c31, L.tl.b0.c32⟩) | exact ⟨L.tl.b0.c30, L.tl.b0.c31, L.tl.b0.c32⟩ | (have LP := L.putQ (by omega) (by first | (simp; done) | (simp; omega)) (ng na) A9 B9 (zl na) c9 (len d) d9; exact ⟨LP.tl.b0.c30, LP.tl.b0.c31, LP.tl.b0.c32⟩)) (first | (go_at_call 46; (with_reducible refine (H1.out _ _ ?_ ).mono ?_); (· (refine L.getZ ?_; (repeat (first | (with_reducible exact List.mem_cons_self) | apply List.mem_cons_of_mem)))); rintro e wh ⟨vh, rfl, iz, be⟩; replace L := (L.step be).z iz; obtain ⟨A9, c9, rfl, _⟩ := iz.form; clear be iz; (try (have x00 := L.b0.c30; have x01 := L.b0.c31; have x02 := L.b0.c32; have y00 := L.b0.fr 0; have y01 := L.b0.fr 1; have y02 := L.b0.fr 2; have z0 := L.tl.b0.c30; have z1 := L.tl.b0.c31; have z2 := L.tl.b0.c32))) | (go_at_call 67; (with_reducible refine (H2.out _ _ ?_ ).mono ?_); (· (refine L.getN ?_; (repeat (first | (with_reducible exact List.mem_cons_self) | apply List.mem_cons_of_mem)))); rintro e wh ⟨vh, rfl, o9⟩; replace L := (L.step o9.below).n o9.isN; obtain ⟨B9, d9, rfl⟩ := L.hn.form; clear o9; (try (have x00 := L.b0.c30; have x01 := L.b0.c31; have x02 := L.b0.c32; have y00 := L.b0.fr 0; have y01 := L.b0.fr 1; have y02 := L.b0.fr 2; have z0 := L.tl.b0.c30; have z1 := L.tl.b0.c31; have z2 := L.tl.b0.c32))))
  clear c00 f00 c01 f01 c02 f02 c10 c11 c12
  go_wp2_with fail
  have LP := L.putQ (by omega) (by first | (simp; done) | (simp; omega)) (ng (na)) A9 B9 (zl (na)) c9 (len (d)) d9
  have k0 := LP.b0.c30
  have k1 := LP.b0.c31
  have k2 := LP.b0.c32
  unfold put3 at k0 k1 k2
  exact bodyPost_ret (v := .agg #[.bool (ng (na)), .slice A9 (zl (na)) c9, .slice B9 (len (d)) d9]) (by simp [results, Tryz.results25, go_sem, k0, k1, k2]) rfl ⟨_, rfl, isP_of LP.hz LP.hn, LP.below⟩
set_option maxHeartbeats 4000000 in
theorem pmul_any (a : Int) (d : Nat) (b : Int) (e : Nat) (vx vy : Value) (w : World) (hx : IsP w vx a d) (hy : IsP w vy b e) (la : zl a ≤ 1000000) (ld : len d ≤ 1000000) (lb : zl b ≤ 1000000) (le : len e ≤ 1000000) (hd0 : 0 < d) (he0 : 0 < e) :
    Calls Tryz.prog 23 #[vx, vy] w (RetQ w (Rat.divInt (a * b) ((d : Int) * (e : Int)))) := by
  obtain ⟨A, c, B, g, rfl, hza, _, hnd⟩ := hx.form
  obtain ⟨C, i, D, k, rfl, hzb, _, hne⟩ := hy.form
  have L0 := ((((((Lq.mk0 w).q hx).q hy).z hza).z hzb).n hnd).n hne
  clear hx hy hza hzb hnd hne
  have l1 := zl_mul a b
  have l3 := len_mul d e
  have H1 := Lib.hid (fun v u W h1 h2 => zmul_any a b v u W h1 h2 (by omega) (by omega))
  have H3 := Lib.hid (fun v u W h1 h2 => mul_any d e v u W h1 h2 (by omega) (by omega))
  have h5 := fun v u W h1 h2 => plow_any (a * b) (d * e) v u W h1 h2 (by omega) (by omega) (Nat.mul_pos hd0 he0)
  rw [Int.natCast_mul] at h5
  unfold RetQ at h5 ⊢
  have H5 := Lib.hid h5
  generalize (Rat.divInt (a * b) ((d : Int) * (e : Int))).num = rn at *
  generalize (Rat.divInt (a * b) ((d : Int) * (e : Int))).den = rd at *
  clear h5 l1 l3 la ld lb le hd0 he0
  generalize a * b = p1 at *
  generalize d * e = p3 at *
  go_enter Tryz.func23, Tryz.ntmps23
  go_wp2_with fail
  have L := (((L0.varQ (w.heap.size) (by simp) (ng a) A B (zl a) c (len d) g).varQ (w.heap.size + 1) (by simp) (ng b) C D (zl b) i (len e) k).varQ (w.heap.size + 2) (by simp) false none none 0 0 0 0)
  replace L := L.drew
  have c00 := L.b0.c30
  have f00 := L.b0.fr 0
  have c01 := L.b0.c31
  have f01 := L.b0.fr 1
  have c02 := L.b0.c32
  have f02 := L.b0.fr 2
  have c10 := L.tl.b0.c30
  have c11 := L.tl.b0.c31
  have c12 := L.tl.b0.c32
  have c20 := L.tl.tl.b0.c30
  have c21 := L.tl.tl.b0.c31
  have c22 := L.tl.tl.b0.c32
  go_region_held3 (fun w' => w'.cell? ⟨w.heap.size, 0, none⟩ = some (.bool (ng a)) ∧ w'.cell? ⟨w.heap.size, 1, none⟩ = some (.slice A (zl a) c) ∧ w'.cell? ⟨w.heap.size, 2, none⟩ = some (.slice B (len d) g) ∧ w'.cell? ⟨w.heap.size + 1, 0, none⟩ = some (.bool (ng b)) ∧ w'.cell? ⟨w.heap.size + 1, 1, none⟩ = some (.slice C (zl b) i) ∧ w'.cell? ⟨w.heap.size + 1, 2, none⟩ = some (.slice D (len e) k)) (first | (with_reducible exact ⟨L.tl.tl.b0.c30, L.tl.tl.b0.c31, L.tl.tl.b0.c32, L.tl.b0.c30, L.tl.b0.c31, L.tl.b0.c32⟩) | exact ⟨L.tl.tl.b0.c30, L.tl.tl.b0.c31, L.tl.tl.b0.c32, L.tl.b0.c30, L.tl.b0.c31, L.tl.b0.c32⟩ | (have LP := L.putQ (by omega) (by first | (simp; done) | (simp; omega)) (ng rn) A9 B9 (zl rn) c9 (len rd) d9; exact ⟨LP.tl.tl.b0.c30, LP.tl.tl.b0.c31, LP.tl.tl.b0.c32, LP.tl.b0.c30, LP.tl.b0.c31, LP.tl.b0.c32⟩)) (first | (go_at_call 66; (with_reducible refine (H1.out _ _ _ ?_ ?_ ).mono ?_); (· (refine L.getZ ?_; (repeat (first | (with_reducible exact List.mem_cons_self) | apply List.mem_cons_of_mem)))); (· (refine L.getZ ?_; (repeat (first | (with_reducible exact List.mem_cons_self) | apply List.mem_cons_of_mem)))); rintro e wh ⟨vh, rfl, iz, be⟩; replace L := (L.step be).z iz; clear be iz) | (go_at_call 63; (with_reducible refine (H3.out _ _ _ ?_ ?_ ).mono ?_); (· (refine L.getN ?_; (repeat (first | (with_reducible exact List.mem_cons_self) | apply List.mem_cons_of_mem)))); (· (refine L.getN ?_; (repeat (first | (with_reducible exact List.mem_cons_self) | apply List.mem_cons_of_mem)))); rintro e wh ⟨vh, rfl, o9⟩; replace L := (L.step o9.below).n o9.isN; clear o9) | (go_at_call 47; (with_reducible refine (H5.out _ _ _ ?_ ?_ ).mono ?_); (· (refine L.getZ ?_; (repeat (first | (with_reducible exact List.mem_cons_self) | apply List.mem_cons_of_mem)))); (· (refine L.getN ?_; (repeat (first | (with_reducible exact List.mem_cons_self) | apply List.mem_cons_of_mem)))); rintro e wh ⟨vh, rfl, iq, be⟩; replace L := (L.step be).q iq; obtain ⟨A9, c9, B9, d9, rfl, _, _, _⟩ := iq.form; clear be iq; (try (have x00 := L.b0.c30; have x01 := L.b0.c31; have x02 := L.b0.c32; have y00 := L.b0.fr 0; have y01 := L.b0.fr 1; have y02 := L.b0.fr 2))))
  clear c00 f00 c01 f01 c02 f02 c10 c11 c12 c20 c21 c22
  go_wp2_with fail
  have LP := L.putQ (by omega) (by first | (simp; done) | (simp; omega)) (ng (rn)) A9 B9 (zl (rn)) c9 (len (rd)) d9
  have k0 := LP.b0.c30
  have k1 := LP.b0.c31
  have k2 := LP.b0.c32
  unfold put3 at k0 k1 k2
  exact bodyPost_ret (v := .agg #[.bool (ng (rn)), .slice A9 (zl (rn)) c9, .slice B9 (len (rd)) d9]) (by simp [results, Tryz.results23, go_sem, k0, k1, k2]) rfl ⟨_, rfl, LP.hq, LP.below⟩
set_option maxHeartbeats 4000000 in
theorem pcmp_any (a : Int) (d : Nat) (b : Int) (e : Nat) (vx vy : Value) (w : World) (hx : IsP w vx a d) (hy : IsP w vy b e) (la : zl a ≤ 1000000) (ld : len d ≤ 1000000) (lb : zl b ≤ 1000000) (le : len e ≤ 1000000) :
    Calls Tryz.prog 31 #[vx, vy] w (RetI w (cmpI (a * (e : Int)) (b * (d : Int)))) := by
  obtain ⟨A, c, B, g, rfl, hza, _, hnd⟩ := hx.form
  obtain ⟨C, i, D, k, rfl, hzb, _, hne⟩ := hy.form
  have L0 := ((((((Lq.mk0 w).q hx).q hy).z hza).z hzb).n hnd).n hne
  clear hx hy hza hzb hnd hne
  have ld' : zl (d : Int) ≤ 1000000 := ld
  have le' : zl (e : Int) ≤ 1000000 := le
  have l1 := zl_mul a (e : Int)
  have l2 := zl_mul b (d : Int)
  have H1 := Lib.hid (fun v u W h1 h2 => ptimes_any a e v u W h1 h2 (by omega) (by omega))
  have H2 := Lib.hid (fun v u W h1 h2 => ptimes_any b d v u W h1 h2 (by omega) (by omega))
  have H3 := Lib.hid (fun v u W h1 h2 => zcmp_any (a * (e : Int)) (b * (d : Int)) v u W h1 h2 (by omega) (by omega))
  generalize cmpI (a * (e : Int)) (b * (d : Int)) = r at *
  clear l1 l2 ld' le' la ld lb le
  generalize a * (e : Int) = p1 at *
  generalize b * (d : Int) = p2 at *
  go_enter Tryz.func31, Tryz.ntmps31
  go_wp2_with fail
  have L := ((L0.varQ (w.heap.size) (by simp) (ng a) A B (zl a) c (len d) g).varQ (w.heap.size + 1) (by simp) (ng b) C D (zl b) i (len e) k)
  replace L := L.drew
  have c00 := L.b0.c30
  have f00 := L.b0.fr 0
  have c01 := L.b0.c31
  have f01 := L.b0.fr 1
  have c02 := L.b0.c32
  have f02 := L.b0.fr 2
  have c10 := L.tl.b0.c30
  have c11 := L.tl.b0.c31
  have c12 := L.tl.b0.c32
  go_region_held3 (fun w' => w'.cell? ⟨w.heap.size, 0, none⟩ = some (.bool (ng a)) ∧ w'.cell? ⟨w.heap.size, 1, none⟩ = some (.slice A (zl a) c) ∧ w'.cell? ⟨w.heap.size, 2, none⟩ = some (.slice B (len d) g) ∧ w'.cell? ⟨w.heap.size + 1, 0, none⟩ = some (.bool (ng b)) ∧ w'.cell? ⟨w.heap.size + 1, 1, none⟩ = some (.slice C (zl b) i) ∧ w'.cell? ⟨w.heap.size + 1, 2, none⟩ = some (.slice D (len e) k)) (first | (with_reducible exact ⟨L.tl.b0.c30, L.tl.b0.c31, L.tl.b0.c32, L.b0.c30, L.b0.c31, L.b0.c32⟩) | exact ⟨L.tl.b0.c30, L.tl.b0.c31, L.tl.b0.c32, L.b0.c30, L.b0.c31, L.b0.c32⟩) (first | (go_at_call 59; (with_reducible refine (H1.out _ _ _ ?_ ?_ ).mono ?_); (· (refine L.getZ ?_; (repeat (first | (with_reducible exact List.mem_cons_self) | apply List.mem_cons_of_mem)))); (· (refine L.getN ?_; (repeat (first | (with_reducible exact List.mem_cons_self) | apply List.mem_cons_of_mem)))); rintro e wh ⟨vh, rfl, iz, be⟩; replace L := (L.step be).z iz; clear be iz) | (go_at_call 59; (with_reducible refine (H2.out _ _ _ ?_ ?_ ).mono ?_); (· (refine L.getZ ?_; (repeat (first | (with_reducible exact List.mem_cons_self) | apply List.mem_cons_of_mem)))); (· (refine L.getN ?_; (repeat (first | (with_reducible exact List.mem_cons_self) | apply List.mem_cons_of_mem)))); rintro e wh ⟨vh, rfl, iz, be⟩; replace L := (L.step be).z iz; clear be iz) | (go_at_call 72; (with_reducible refine (H3.out _ _ _ ?_ ?_ ).mono ?_); (· (refine L.getZ ?_; (repeat (first | (with_reducible exact List.mem_cons_self) | apply List.mem_cons_of_mem)))); (· (refine L.getZ ?_; (repeat (first | (with_reducible exact List.mem_cons_self) | apply List.mem_cons_of_mem)))); rintro e wh ⟨rfl, be⟩; replace L := L.step be; clear be))
  clear c00 f00 c01 f01 c02 f02 c10 c11 c12
  go_wp2_with fail
  go_ret
  exact ⟨rfl, L.below⟩
set_option maxHeartbeats 4000000 in
theorem pdiv_any (a : Int) (d : Nat) (b : Int) (e : Nat) (vx vy : Value) (w : World) (hx : IsP w vx a d) (hy : IsP w vy b e) (la : zl a ≤ 1000000) (ld : len d ≤ 1000000) (lb : zl b ≤ 1000000) (le : len e ≤ 1000000) (hd0 : 0 < d) (hb0 : b ≠ 0) :
    Calls Tryz.prog 17 #[vx, vy] w (RetPE w (Rat.divInt (a * (e : Int)) ((d : Int) * b)).num (Rat.divInt (a * (e : Int)) ((d : Int) * b)).den 0) := by
  obtain ⟨A, c, B, g, rfl, hza, _, hnd⟩ := hx.form
  obtain ⟨C, i, D, k, rfl, hzb, _, hne⟩ := hy.form
  have L0 := ((((((Lq.mk0 w).q hx).q hy).z hza).z hzb).n hnd).n hne
  clear hx hy hza hzb hnd hne
  have le' : zl (e : Int) ≤ 1000000 := le
  have ld' : zl (d : Int) ≤ 1000000 := ld
  have l1 := zl_mul a (e : Int)
  have H1 := Lib.hid (fun v u W h1 h2 => ptimes_any a e v u W h1 h2 (by omega) (by omega))
  have l2 := zl_mul b (d : Int)
  have h0 : b * (d : Int) ≠ 0 := Int.mul_ne_zero hb0 (by omega)
  have H2 := Lib.hid (fun v u W h1 h2 => ptimes_any b d v u W h1 h2 (by omega) (by omega))
  rw [Int.mul_comm (d : Int) b]
  have H5 := Lib.hid (fun v u W h1 h2 => pmake_any (a * (e : Int)) (b * (d : Int)) v u W h1 h2 (by omega) (by omega) h0)
  generalize (Rat.divInt (a * (e : Int)) (b * (d : Int))).num = rn at *
  generalize (Rat.divInt (a * (e : Int)) (b * (d : Int))).den = rd at *
  clear h0 l1 l2 ld' le' la ld lb le hd0 hb0
  generalize a * (e : Int) = p1 at *
  generalize b * (d : Int) = p2 at *
  go_enter Tryz.func17, Tryz.ntmps17
  go_wp2_with fail
  have L := (((L0.varQ (w.heap.size) (by simp) (ng a) A B (zl a) c (len d) g).varQ (w.heap.size + 1) (by simp) (ng b) C D (zl b) i (len e) k).varQ (w.heap.size + 2) (by simp) false none none 0 0 0 0)
  replace L := L.drew
  have c00 := L.b0.c30
  have f00 := L.b0.fr 0
  have c01 := L.b0.c31
  have f01 := L.b0.fr 1
  have c02 := L.b0.c32
  have f02 := L.b0.fr 2
  have c10 := L.tl.b0.c30
  have c11 := L.tl.b0.c31
  have c12 := L.tl.b0.c32
  have c20 := L.tl.tl.b0.c30
  have c21 := L.tl.tl.b0.c31
  have c22 := L.tl.tl.b0.c32
  go_region_held3 (fun w' => w'.cell? ⟨w.heap.size, 0, none⟩ = some (.bool (ng a)) ∧ w'.cell? ⟨w.heap.size, 1, none⟩ = some (.slice A (zl a) c) ∧ w'.cell? ⟨w.heap.size, 2, none⟩ = some (.slice B (len d) g) ∧ w'.cell? ⟨w.heap.size + 1, 0, none⟩ = some (.bool (ng b)) ∧ w'.cell? ⟨w.heap.size + 1, 1, none⟩ = some (.slice C (zl b) i) ∧ w'.cell? ⟨w.heap.size + 1, 2, none⟩ = some (.slice D (len e) k)) (first | (with_reducible exact ⟨L.tl.tl.b0.c30, L.tl.tl.b0.c31, L.tl.tl.b0.c32, L.tl.b0.c30, L.tl.b0.c31, L.tl.b0.c32⟩) | exact ⟨L.tl.tl.b0.c30, L.tl.tl.b0.c31, L.tl.tl.b0.c32, L.tl.b0.c30, L.tl.b0.c31, L.tl.b0.c32⟩ | (have LP := L.putQ (by omega) (by first | (simp; done) | (simp; omega)) (ng rn) A9 B9 (zl rn) c9 (len rd) d9; exact ⟨LP.tl.tl.b0.c30, LP.tl.tl.b0.c31, LP.tl.tl.b0.c32, LP.tl.b0.c30, LP.tl.b0.c31, LP.tl.b0.c32⟩)) (first | (go_at_call 59; (with_reducible refine (H1.out _ _ _ ?_ ?_ ).mono ?_); (· (refine L.getZ ?_; (repeat (first | (with_reducible exact List.mem_cons_self) | apply List.mem_cons_of_mem)))); (· (refine L.getN ?_; (repeat (first | (with_reducible exact List.mem_cons_self) | apply List.mem_cons_of_mem)))); rintro e wh ⟨vh, rfl, iz, be⟩; replace L := (L.step be).z iz; clear be iz) | (go_at_call 59; (with_reducible refine (H2.out _ _ _ ?_ ?_ ).mono ?_); (· (refine L.getZ ?_; (repeat (first | (with_reducible exact List.mem_cons_self) | apply List.mem_cons_of_mem)))); (· (refine L.getN ?_; (repeat (first | (with_reducible exact List.mem_cons_self) | apply List.mem_cons_of_mem)))); rintro e wh ⟨vh, rfl, iz, be⟩; replace L := (L.step be).z iz; clear be iz) | (go_at_call 11; (with_reducible refine (H5.out _ _ _ ?_ ?_ ).mono ?_); (· (refine L.getZ ?_; (repeat (first | (with_reducible exact List.mem_cons_self) | apply List.mem_cons_of_mem)))); (· (refine L.getZ ?_; (repeat (first | (with_reducible exact List.mem_cons_self) | apply List.mem_cons_of_mem)))); rintro e wh ⟨vh, rfl, iq, be⟩; replace L := (L.step be).q iq; obtain ⟨A9, c9, B9, d9, rfl, _, _, _⟩ := iq.form; clear be iq; (try (have x00 := L.b0.c30; have x01 := L.b0.c31; have x02 := L.b0.c32; have y00 := L.b0.fr 0; have y01 := L.b0.fr 1; have y02 := L.b0.fr 2))))
  clear c00 f00 c01 f01 c02 f02 c10 c11 c12 c20 c21 c22
  go_wp2_with fail
  have LP := L.putQ (by omega) (by first | (simp; done) | (simp; omega)) (ng (rn)) A9 B9 (zl (rn)) c9 (len (rd)) d9
  have k0 := LP.b0.c30
  have k1 := LP.b0.c31
  have k2 := LP.b0.c32
  unfold put3 at k0 k1 k2
  exact bodyPost_ret (v := .tuple #[.agg #[.bool (ng (rn)), .slice A9 (zl (rn)) c9, .slice B9 (len (rd)) d9], .int .i64 0]) (by simp [results, Tryz.results17, go_sem, k0, k1, k2]) rfl ⟨_, rfl, LP.hq, LP.below⟩
set_option maxHeartbeats 4000000 in
theorem pdiv_zero (a : Int) (d : Nat) (e : Nat) (vx vy : Value) (w : World) (hx : IsP w vx a d) (hy : IsP w vy 0 e) (la : zl a ≤ 1000000) (ld : len d ≤ 1000000) (le : len e ≤ 1000000) :
    Calls Tryz.prog 17 #[vx, vy] w (RetPE w 0 0 2) := by
  obtain ⟨A, c, B, g, rfl, hza, _, hnd⟩ := hx.form
  obtain ⟨C, i, D, k, rfl, hzb, _, hne⟩ := hy.form
  have L0 := ((((((Lq.mk0 w).q hx).q hy).z hza).z hzb).n hnd).n hne
  clear hx hy hza hzb hnd hne
  have le' : zl (e : Int) ≤ 1000000 := le
  have ld' : zl (d : Int) ≤ 1000000 := ld
  have l1 := zl_mul a (e : Int)
  have H1 := Lib.hid (fun v u W h1 h2 => ptimes_any a e v u W h1 h2 (by omega) (by omega))
  have h2 := fun v u W h1 h2 => ptimes_any 0 d v u W h1 h2 (by rw [zl_zero]; omega) (by omega)
  rw [Int.zero_mul] at h2
  have H2 := Lib.hid h2
  have H5 := Lib.hid (fun v u W h1 h2 => pmake_zero (a * (e : Int)) v u W h1 h2)
  clear h2 l1 ld' le' la ld le
  generalize a * (e : Int) = p1 at *
  go_enter Tryz.func17, Tryz.ntmps17
  go_wp2_with fail
  have L := (((L0.varQ (w.heap.size) (by simp) (ng a) A B (zl a) c (len d) g).varQ (w.heap.size + 1) (by simp) (ng 0) C D (zl 0) i (len e) k).varQ (w.heap.size + 2) (by simp) false none none 0 0 0 0)
  replace L := L.drew
  have c00 := L.b0.c30
  have f00 := L.b0.fr 0
  have c01 := L.b0.c31
  have f01 := L.b0.fr 1
  have c02 := L.b0.c32
  have f02 := L.b0.fr 2
  have c10 := L.tl.b0.c30
  have c11 := L.tl.b0.c31
  have c12 := L.tl.b0.c32
  have c20 := L.tl.tl.b0.c30
  have c21 := L.tl.tl.b0.c31
  have c22 := L.tl.tl.b0.c32
  go_region_held3 (fun w' => w'.cell? ⟨w.heap.size, 0, none⟩ = some (.bool (ng a)) ∧ w'.cell? ⟨w.heap.size, 1, none⟩ = some (.slice A (zl a) c) ∧ w'.cell? ⟨w.heap.size, 2, none⟩ = some (.slice B (len d) g) ∧ w'.cell? ⟨w.heap.size + 1, 0, none⟩ = some (.bool (ng 0)) ∧ w'.cell? ⟨w.heap.size + 1, 1, none⟩ = some (.slice C (zl 0) i) ∧ w'.cell? ⟨w.heap.size + 1, 2, none⟩ = some (.slice D (len e) k)) (first | (with_reducible exact ⟨L.tl.tl.b0.c30, L.tl.tl.b0.c31, L.tl.tl.b0.c32, L.tl.b0.c30, L.tl.b0.c31, L.tl.b0.c32⟩) | exact ⟨L.tl.tl.b0.c30, L.tl.tl.b0.c31, L.tl.tl.b0.c32, L.tl.b0.c30, L.tl.b0.c31, L.tl.b0.c32⟩ | (have LP := L.putQ (by omega) (by first | (simp; done) | (simp; omega)) (ng 0) A9 B9 (zl 0) c9 (len 0) d9; exact ⟨LP.tl.tl.b0.c30, LP.tl.tl.b0.c31, LP.tl.tl.b0.c32, LP.tl.b0.c30, LP.tl.b0.c31, LP.tl.b0.c32⟩)) (first | (go_at_call 59; (with_reducible refine (H1.out _ _ _ ?_ ?_ ).mono ?_); (· (refine L.getZ ?_; (repeat (first | (with_reducible exact List.mem_cons_self) | apply List.mem_cons_of_mem)))); (· (refine L.getN ?_; (repeat (first | (with_reducible exact List.mem_cons_self) | apply List.mem_cons_of_mem)))); rintro e wh ⟨vh, rfl, iz, be⟩; replace L := (L.step be).z iz; clear be iz) | (go_at_call 59; (with_reducible refine (H2.out _ _ _ ?_ ?_ ).mono ?_); (· (refine L.getZ ?_; (repeat (first | (with_reducible exact List.mem_cons_self) | apply List.mem_cons_of_mem)))); (· (refine L.getN ?_; (repeat (first | (with_reducible exact List.mem_cons_self) | apply List.mem_cons_of_mem)))); rintro e wh ⟨vh, rfl, iz, be⟩; replace L := (L.step be).z iz; clear be iz) | (go_at_call 11; (with_reducible refine (H5.out _ _ _ ?_ ?_ ).mono ?_); (· (refine L.getZ ?_; (repeat (first | (with_reducible exact List.mem_cons_self) | apply List.mem_cons_of_mem)))); (· (refine L.getZ ?_; (repeat (first | (with_reducible exact List.mem_cons_self) | apply List.mem_cons_of_mem)))); rintro e wh ⟨vh, rfl, iq, be⟩; replace L := (L.step be).q iq; obtain ⟨A9, c9, B9, d9, rfl, _, _, _⟩ := iq.form; clear be iq; (try (have x00 := L.b0.c30; have x01 := L.b0.c31; have x02 := L.b0.c32; have y00 := L.b0.fr 0; have y01 := L.b0.fr 1; have y02 := L.b0.fr 2))))
  clear c00 f00 c01 f01 c02 f02 c10 c11 c12 c20 c21 c22
  go_wp2_with fail
  have LP := L.putQ (by omega) (by first | (simp; done) | (simp; omega)) (ng (0)) A9 B9 (zl (0)) c9 (len (0)) d9
  have k0 := LP.b0.c30
  have k1 := LP.b0.c31
  have k2 := LP.b0.c32
  unfold put3 at k0 k1 k2
  exact bodyPost_ret (v := .tuple #[.agg #[.bool (ng (0)), .slice A9 (zl (0)) c9, .slice B9 (len (0)) d9], .int .i64 2]) (by simp [results, Tryz.results17, go_sem, k0, k1, k2]) rfl ⟨_, rfl, LP.hq, LP.below⟩

end Go.Proofs.YtbndgggjfjdfbaaGreatDoor
