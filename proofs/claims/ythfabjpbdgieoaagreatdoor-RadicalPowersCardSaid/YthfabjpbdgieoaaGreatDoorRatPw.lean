/- The program's Power of fractions. -/
import Derived.Test.YthfabjpbdgieoaaGreatDoorBaseU
import Derived.Test.YthfabjpbdgieoaaGreatDoorBaseP
import Derived.Deep.RegionHeld3
import Derived.Deep.DrawnRows
namespace Go.Proofs.YthfabjpbdgieoaaGreatDoor
open Go.RowKit
set_option linter.unusedVariables false
set_option linter.unusedSimpArgs false
set_option maxRecDepth 100000
attribute [local go_sem ↓] Go.wp_at_zero Go.wp_at_succ

set_option maxHeartbeats 1000000 in
theorem ppower_lo (a : Int) (d : Nat) (n : Int) (vx : Value) (w : World) (hx : IsP w vx a d) (h : n < -64) :
    Calls Tryz.prog 155 #[vx, .int .i64 n] w (RetPE w 0 0 1) := by
  obtain ⟨A, c, B, g, rfl, _, _, _⟩ := hx.form
  have L0 := (Lq.mk0 w).q hx
  clear hx
  have b1 : decide (n < -64) = true := decide_eq_true h
  clear h
  go_enter Tryz.func155, Tryz.ntmps155
  go_wp2_with fail
  have L := ((L0.varQ (w.heap.size) (by simp) (ng a) A B (zl a) c (len d) g).varQ (w.heap.size + 1) (by simp) false none none 0 0 0 0)
  have c00 := L.b0.c30
  have f00 := L.b0.fr 0
  have c01 := L.b0.c31
  have f01 := L.b0.fr 1
  have c02 := L.b0.c32
  have f02 := L.b0.fr 2
  have c10 := L.tl.b0.c30
  have c11 := L.tl.b0.c31
  have c12 := L.tl.b0.c32
  go_wp2_with fail
  exact bodyPost_ret (v := .tuple #[.agg #[.bool false, .slice none 0 0, .slice none 0 0], .int .i64 1]) (by simp [results, Tryz.results155, go_sem, c00, c01, c02]) rfl ⟨_, rfl, isP_zero _, L.below⟩
set_option maxHeartbeats 1000000 in
theorem ppower_hi (a : Int) (d : Nat) (n : Int) (vx : Value) (w : World) (hx : IsP w vx a d) (h : 64 < n) :
    Calls Tryz.prog 155 #[vx, .int .i64 n] w (RetPE w 0 0 1) := by
  obtain ⟨A, c, B, g, rfl, _, _, _⟩ := hx.form
  have L0 := (Lq.mk0 w).q hx
  clear hx
  have b1 : decide (n < -64) = false := decide_eq_false (by omega)
  have b2 : decide (64 < n) = true := decide_eq_true h
  clear h
  go_enter Tryz.func155, Tryz.ntmps155
  go_wp2_with fail
  have L := ((L0.varQ (w.heap.size) (by simp) (ng a) A B (zl a) c (len d) g).varQ (w.heap.size + 1) (by simp) false none none 0 0 0 0)
  have c00 := L.b0.c30
  have f00 := L.b0.fr 0
  have c01 := L.b0.c31
  have f01 := L.b0.fr 1
  have c02 := L.b0.c32
  have f02 := L.b0.fr 2
  have c10 := L.tl.b0.c30
  have c11 := L.tl.b0.c31
  have c12 := L.tl.b0.c32
  go_wp2_with fail
  exact bodyPost_ret (v := .tuple #[.agg #[.bool false, .slice none 0 0, .slice none 0 0], .int .i64 1]) (by simp [results, Tryz.results155, go_sem, c00, c01, c02]) rfl ⟨_, rfl, isP_zero _, L.below⟩
set_option maxHeartbeats 1000000 in
theorem ppower_zero (d : Nat) (n : Int) (vx : Value) (w : World) (hx : IsP w vx 0 d) (h : n < 0) (h' : -64 ≤ n) :
    Calls Tryz.prog 155 #[vx, .int .i64 n] w (RetPE w 0 0 2) := by
  have HS := Lib.hid (fun v W h => psign_any 0 d v W h (by rw [zl_zero]; omega))
  rw [show cmpI 0 0 = 0 from rfl] at HS
  obtain ⟨A, c, B, g, rfl, _, _, _⟩ := hx.form
  have L0 := (Lq.mk0 w).q hx
  clear hx
  have b1 : decide (n < -64) = false := decide_eq_false (by omega)
  have b2 : decide (64 < n) = false := decide_eq_false (by omega)
  have b3 : decide (n < 0) = true := decide_eq_true h
  clear h
  go_enter Tryz.func155, Tryz.ntmps155
  go_wp2_with fail
  have L := ((L0.varQ (w.heap.size) (by simp) (ng 0) A B (zl 0) c (len d) g).varQ (w.heap.size + 1) (by simp) false none none 0 0 0 0)
  have c00 := L.b0.c30
  have f00 := L.b0.fr 0
  have c01 := L.b0.c31
  have f01 := L.b0.fr 1
  have c02 := L.b0.c32
  have f02 := L.b0.fr 2
  have c10 := L.tl.b0.c30
  have c11 := L.tl.b0.c31
  have c12 := L.tl.b0.c32
  refine (HS.out _ _ (L.getQ (by simp))).mono ?_
  rintro e w1 ⟨rfl, be⟩
  clear c00 f00 c01 f01 c02 f02 c10 c11 c12
  replace L := L.step be
  clear be
  have c00 := L.b0.c30
  have f00 := L.b0.fr 0
  have c01 := L.b0.c31
  have f01 := L.b0.fr 1
  have c02 := L.b0.c32
  have f02 := L.b0.fr 2
  have c10 := L.tl.b0.c30
  have c11 := L.tl.b0.c31
  have c12 := L.tl.b0.c32
  go_wp2_with fail
  have LP := L.putQ (by omega) (by simp) false none none 0 0 0 0
  have d0 := LP.b0.c30
  have d1 := LP.b0.c31
  have d2 := LP.b0.c32
  unfold put3 at d0 d1 d2
  exact bodyPost_ret (v := .tuple #[.agg #[.bool false, .slice none 0 0, .slice none 0 0], .int .i64 2]) (by simp [results, Tryz.results155, go_sem, d0, d1, d2]) rfl ⟨_, rfl, isP_zero _, LP.below⟩
set_option maxHeartbeats 4000000 in
theorem ppower_nn (k : Nat) (a : Int) (d : Nat) (vx : Value) (w : World) (hx : IsP w vx a d) (la : zl a ≤ 1000) (ld : len d ≤ 1000) (hk : k ≤ 64) :
    Calls Tryz.prog 155 #[vx, .int .i64 (k : Int)] w (RetPE w (sg (ng a && k % 2 == 1) (a.natAbs ^ k)) (d ^ k) 0) := by
  obtain ⟨A, c, B, g, rfl, _, hna, hd⟩ := hx.form
  have la' : len a.natAbs ≤ 1000 := la
  have h1 : len (a.natAbs ^ k) ≤ 1000001 := by
    have h1 := len_pow a.natAbs k
    have h2 : k * len a.natAbs ≤ 64 * 1000 := Nat.mul_le_mul hk (by omega)
    omega
  have H1 := Lib.hid (fun v W h => power_any a.natAbs k v W h (by omega) (by omega))
  have H2 := Lib.hid (fun v W h => power_any d k v W h (by omega) (by omega))
  have HS := Lib.hid (fun b v W h => znatN_any b (a.natAbs ^ k) v W h (by omega))
  have L0 := (((Lq.mk0 w).q hx).n hna).n hd
  clear hx hna hd la'
  obtain ⟨p, hp⟩ : ∃ p, a.natAbs ^ k = p := ⟨_, rfl⟩
  obtain ⟨q, hq⟩ : ∃ q, d ^ k = q := ⟨_, rfl⟩
  rw [hp] at H1 HS h1 ⊢
  rw [hq] at H2 ⊢
  clear hp hq
  obtain ⟨s, hs⟩ : ∃ s, ng a = s := ⟨_, rfl⟩
  rw [hs] at L0 ⊢
  clear hs
  obtain ⟨o, ho⟩ : ∃ o, (k % 2 == 1) = o := ⟨_, rfl⟩
  rw [ho]
  have e1 : ((k : Int).tmod 2 == 1) = o := by
    rw [← ho, Int.tmod_eq_emod_of_nonneg (by omega), Bool.eq_iff_iff]
    simp
    omega
  have e2 : ((k : Int) % 2 == 1) = o := by
    rw [← ho, Bool.eq_iff_iff]
    simp
    omega
  have b1 : decide ((k : Int) < -64) = false := decide_eq_false (by omega)
  have b2 : decide (64 < (k : Int)) = false := decide_eq_false (by omega)
  have b3 : decide ((k : Int) < 0) = false := decide_eq_false (by omega)
  clear ho
  obtain ⟨t, ht⟩ : ∃ t, (s && o) = t := ⟨_, rfl⟩
  rw [ht]
  have HTT := Lib.hid ht
  clear ht
  go_enter Tryz.func155, Tryz.ntmps155
  go_wp2_with fail
  have L := ((L0.varQ (w.heap.size) (by simp) s A B (zl a) c (len d) g).varQ (w.heap.size + 1) (by simp) false none none 0 0 0 0)
  have c00 := L.b0.c30
  have f00 := L.b0.fr 0
  have c01 := L.b0.c31
  have f01 := L.b0.fr 1
  have c02 := L.b0.c32
  have f02 := L.b0.fr 2
  have c10 := L.tl.b0.c30
  have c11 := L.tl.b0.c31
  have c12 := L.tl.b0.c32
  clear c00 f00 c01 f01 c02 f02 c10 c11 c12
  replace L := L.drew
  have c00 := L.b0.c30
  have f00 := L.b0.fr 0
  have c01 := L.b0.c31
  have f01 := L.b0.fr 1
  have c02 := L.b0.c32
  have f02 := L.b0.fr 2
  have c10 := L.tl.b0.c30
  have c11 := L.tl.b0.c31
  have c12 := L.tl.b0.c32
  go_region_held3 (fun w' => w'.cell? ⟨w.heap.size, 0, none⟩ = some (.bool s) ∧ w'.cell? ⟨w.heap.size, 1, none⟩ = some (.slice A (zl a) c) ∧ w'.cell? ⟨w.heap.size, 2, none⟩ = some (.slice B (len d) g)) (first | (with_reducible exact ⟨L.tl.b0.c30, L.tl.b0.c31, L.tl.b0.c32⟩) | exact ⟨L.tl.b0.c30, L.tl.b0.c31, L.tl.b0.c32⟩) (fail)
  cases s
  · obtain rfl : false = t := HTT.out
    go_wp2_with fail
    refine (H1.out _ _ (L.getN (by simp))).mono ?_
    rintro e w1 ⟨v1, rfl, o9⟩
    clear c00 f00 c01 f01 c02 f02 c10 c11 c12
    replace L := (L.step o9.below).n o9.isN
    clear o9
    have c00 := L.b0.c30
    have f00 := L.b0.fr 0
    have c01 := L.b0.c31
    have f01 := L.b0.fr 1
    have c02 := L.b0.c32
    have f02 := L.b0.fr 2
    have c10 := L.tl.b0.c30
    have c11 := L.tl.b0.c31
    have c12 := L.tl.b0.c32
    go_wp2_with fail
    refine (HS.out _ _ _ L.hn).mono ?_
    rintro e w2 ⟨v2, rfl, iz, be⟩
    clear c00 f00 c01 f01 c02 f02 c10 c11 c12
    replace L := (L.step be).z iz
    obtain ⟨A9, c9, rfl, _⟩ := iz.form
    clear be iz
    have c00 := L.b0.c30
    have f00 := L.b0.fr 0
    have c01 := L.b0.c31
    have f01 := L.b0.fr 1
    have c02 := L.b0.c32
    have f02 := L.b0.fr 2
    have c10 := L.tl.b0.c30
    have c11 := L.tl.b0.c31
    have c12 := L.tl.b0.c32
    go_wp2_with fail
    refine (H2.out _ _ (L.getN (by simp))).mono ?_
    rintro e w3 ⟨v3, rfl, o9⟩
    clear c00 f00 c01 f01 c02 f02 c10 c11 c12
    replace L := (L.step o9.below).n o9.isN
    obtain ⟨B9, d9, rfl⟩ := L.hn.form
    clear o9
    have c00 := L.b0.c30
    have f00 := L.b0.fr 0
    have c01 := L.b0.c31
    have f01 := L.b0.fr 1
    have c02 := L.b0.c32
    have f02 := L.b0.fr 2
    have c10 := L.tl.b0.c30
    have c11 := L.tl.b0.c31
    have c12 := L.tl.b0.c32
    go_wp2_with fail
    have LP := L.putQ (by omega) (by first | (simp; done) | (simp; omega)) (ng (sg false p)) A9 B9 (zl (sg false p)) c9 (len (q)) d9
    have k0 := LP.b0.c30
    have k1 := LP.b0.c31
    have k2 := LP.b0.c32
    unfold put3 at k0 k1 k2
    exact bodyPost_ret (v := .tuple #[.agg #[.bool (ng (sg false p)), .slice A9 (zl (sg false p)) c9, .slice B9 (len (q)) d9], .int .i64 0]) (by simp [results, Tryz.results155, go_sem, k0, k1, k2]) rfl ⟨_, rfl, isP_of LP.hz LP.hn, LP.below⟩
  · obtain rfl : o = t := by rw [← HTT.out]; rfl
    go_wp2_with fail
    refine (H1.out _ _ (L.getN (by simp))).mono ?_
    rintro e w1 ⟨v1, rfl, o9⟩
    clear c00 f00 c01 f01 c02 f02 c10 c11 c12
    replace L := (L.step o9.below).n o9.isN
    clear o9
    have c00 := L.b0.c30
    have f00 := L.b0.fr 0
    have c01 := L.b0.c31
    have f01 := L.b0.fr 1
    have c02 := L.b0.c32
    have f02 := L.b0.fr 2
    have c10 := L.tl.b0.c30
    have c11 := L.tl.b0.c31
    have c12 := L.tl.b0.c32
    go_wp2_with fail
    refine (HS.out _ _ _ L.hn).mono ?_
    rintro e w2 ⟨v2, rfl, iz, be⟩
    clear c00 f00 c01 f01 c02 f02 c10 c11 c12
    replace L := (L.step be).z iz
    obtain ⟨A9, c9, rfl, _⟩ := iz.form
    clear be iz
    have c00 := L.b0.c30
    have f00 := L.b0.fr 0
    have c01 := L.b0.c31
    have f01 := L.b0.fr 1
    have c02 := L.b0.c32
    have f02 := L.b0.fr 2
    have c10 := L.tl.b0.c30
    have c11 := L.tl.b0.c31
    have c12 := L.tl.b0.c32
    go_wp2_with fail
    refine (H2.out _ _ (L.getN (by simp))).mono ?_
    rintro e w3 ⟨v3, rfl, o9⟩
    clear c00 f00 c01 f01 c02 f02 c10 c11 c12
    replace L := (L.step o9.below).n o9.isN
    obtain ⟨B9, d9, rfl⟩ := L.hn.form
    clear o9
    have c00 := L.b0.c30
    have f00 := L.b0.fr 0
    have c01 := L.b0.c31
    have f01 := L.b0.fr 1
    have c02 := L.b0.c32
    have f02 := L.b0.fr 2
    have c10 := L.tl.b0.c30
    have c11 := L.tl.b0.c31
    have c12 := L.tl.b0.c32
    go_wp2_with fail
    have LP := L.putQ (by omega) (by first | (simp; done) | (simp; omega)) (ng (sg o p)) A9 B9 (zl (sg o p)) c9 (len (q)) d9
    have k0 := LP.b0.c30
    have k1 := LP.b0.c31
    have k2 := LP.b0.c32
    unfold put3 at k0 k1 k2
    exact bodyPost_ret (v := .tuple #[.agg #[.bool (ng (sg o p)), .slice A9 (zl (sg o p)) c9, .slice B9 (len (q)) d9], .int .i64 0]) (by simp [results, Tryz.results155, go_sem, k0, k1, k2]) rfl ⟨_, rfl, isP_of LP.hz LP.hn, LP.below⟩
set_option maxHeartbeats 4000000 in
theorem ppower_neg (k : Nat) (a : Int) (d : Nat) (N : Int) (hN : N = -(k : Int)) (vx : Value) (w : World) (hx : IsP w vx a d) (la : zl a ≤ 1000) (ld : len d ≤ 1000) (hk : k ≤ 64) (hk0 : 0 < k) (ha0 : a ≠ 0) :
    Calls Tryz.prog 155 #[vx, .int .i64 N] w (RetPE w (sg (ng a && k % 2 == 1) (d ^ k)) (a.natAbs ^ k) 0) := by
  have HSG := Lib.hid (fun v W h => psign_any a d v W h (by omega))
  have hK : (cmpI a 0 == 0) = false := by
    rw [beq_eq_false_iff_ne]
    unfold cmpI
    (repeat' split) <;> omega
  generalize cmpI a 0 = K at *
  obtain ⟨A, c, B, g, rfl, _, hna, hd⟩ := hx.form
  have la' : len a.natAbs ≤ 1000 := la
  have h1 : len (d ^ k) ≤ 1000001 := by
    have h1 := len_pow d k
    have h2 : k * len d ≤ 64 * 1000 := Nat.mul_le_mul hk (by omega)
    omega
  have H1 := Lib.hid (fun v W h => power_any d k v W h (by omega) (by omega))
  have H2 := Lib.hid (fun v W h => power_any a.natAbs k v W h (by omega) (by omega))
  have HS := Lib.hid (fun b v W h => znatN_any b (d ^ k) v W h (by omega))
  have L0 := (((Lq.mk0 w).q hx).n hna).n hd
  clear hx hna hd la'
  obtain ⟨p, hp⟩ : ∃ p, d ^ k = p := ⟨_, rfl⟩
  obtain ⟨q, hq⟩ : ∃ q, a.natAbs ^ k = q := ⟨_, rfl⟩
  rw [hp] at H1 HS h1 ⊢
  rw [hq] at H2 ⊢
  clear hp hq
  obtain ⟨s, hs⟩ : ∃ s, ng a = s := ⟨_, rfl⟩
  rw [hs] at L0 ⊢
  clear hs
  obtain ⟨o, ho⟩ : ∃ o, (k % 2 == 1) = o := ⟨_, rfl⟩
  rw [ho]
  have e1 : ((k : Int).tmod 2 == 1) = o := by
    rw [← ho, Int.tmod_eq_emod_of_nonneg (by omega), Bool.eq_iff_iff]
    simp
    omega
  have e2 : ((k : Int) % 2 == 1) = o := by
    rw [← ho, Bool.eq_iff_iff]
    simp
    omega
  have b1 : decide (N < -64) = false := decide_eq_false (by omega)
  have b2 : decide (64 < N) = false := decide_eq_false (by omega)
  have b3 : decide (N < 0) = true := decide_eq_true (by omega)
  clear ho
  have hw : IntKind.i64.wrap (-N) = (k : Int) := by rw [IntKind.wrap_i64]; omega
  clear hN hk0 ha0
  obtain ⟨t, ht⟩ : ∃ t, (s && o) = t := ⟨_, rfl⟩
  rw [ht]
  have HTT := Lib.hid ht
  clear ht
  go_enter Tryz.func155, Tryz.ntmps155
  go_wp2_with fail
  have L := ((L0.varQ (w.heap.size) (by simp) s A B (zl a) c (len d) g).varQ (w.heap.size + 1) (by simp) false none none 0 0 0 0)
  have c00 := L.b0.c30
  have f00 := L.b0.fr 0
  have c01 := L.b0.c31
  have f01 := L.b0.fr 1
  have c02 := L.b0.c32
  have f02 := L.b0.fr 2
  have c10 := L.tl.b0.c30
  have c11 := L.tl.b0.c31
  have c12 := L.tl.b0.c32
  refine (HSG.out _ _ (L.getQ (by simp))).mono ?_
  rintro e w1 ⟨rfl, be⟩
  clear c00 f00 c01 f01 c02 f02 c10 c11 c12
  replace L := L.step be
  clear be
  have c00 := L.b0.c30
  have f00 := L.b0.fr 0
  have c01 := L.b0.c31
  have f01 := L.b0.fr 1
  have c02 := L.b0.c32
  have f02 := L.b0.fr 2
  have c10 := L.tl.b0.c30
  have c11 := L.tl.b0.c31
  have c12 := L.tl.b0.c32
  go_wp2_with fail
  clear c00 f00 c01 f01 c02 f02 c10 c11 c12
  replace L := L.drew
  have c00 := L.b0.c30
  have f00 := L.b0.fr 0
  have c01 := L.b0.c31
  have f01 := L.b0.fr 1
  have c02 := L.b0.c32
  have f02 := L.b0.fr 2
  have c10 := L.tl.b0.c30
  have c11 := L.tl.b0.c31
  have c12 := L.tl.b0.c32
  go_region_held3 (fun w' => w'.cell? ⟨w.heap.size, 0, none⟩ = some (.bool s) ∧ w'.cell? ⟨w.heap.size, 1, none⟩ = some (.slice A (zl a) c) ∧ w'.cell? ⟨w.heap.size, 2, none⟩ = some (.slice B (len d) g)) (first | (with_reducible exact ⟨L.tl.b0.c30, L.tl.b0.c31, L.tl.b0.c32⟩) | exact ⟨L.tl.b0.c30, L.tl.b0.c31, L.tl.b0.c32⟩) (fail)
  cases s
  · obtain rfl : false = t := HTT.out
    go_wp2_with fail
    refine (H1.out _ _ (L.getN (by simp))).mono ?_
    rintro e w2 ⟨v1, rfl, o9⟩
    clear c00 f00 c01 f01 c02 f02 c10 c11 c12
    replace L := (L.step o9.below).n o9.isN
    clear o9
    have c00 := L.b0.c30
    have f00 := L.b0.fr 0
    have c01 := L.b0.c31
    have f01 := L.b0.fr 1
    have c02 := L.b0.c32
    have f02 := L.b0.fr 2
    have c10 := L.tl.b0.c30
    have c11 := L.tl.b0.c31
    have c12 := L.tl.b0.c32
    go_wp2_with fail
    refine (HS.out _ _ _ L.hn).mono ?_
    rintro e w3 ⟨v2, rfl, iz, be⟩
    clear c00 f00 c01 f01 c02 f02 c10 c11 c12
    replace L := (L.step be).z iz
    obtain ⟨A9, c9, rfl, _⟩ := iz.form
    clear be iz
    have c00 := L.b0.c30
    have f00 := L.b0.fr 0
    have c01 := L.b0.c31
    have f01 := L.b0.fr 1
    have c02 := L.b0.c32
    have f02 := L.b0.fr 2
    have c10 := L.tl.b0.c30
    have c11 := L.tl.b0.c31
    have c12 := L.tl.b0.c32
    go_wp2_with fail
    refine (H2.out _ _ (L.getN (by simp))).mono ?_
    rintro e w4 ⟨v3, rfl, o9⟩
    clear c00 f00 c01 f01 c02 f02 c10 c11 c12
    replace L := (L.step o9.below).n o9.isN
    obtain ⟨B9, d9, rfl⟩ := L.hn.form
    clear o9
    have c00 := L.b0.c30
    have f00 := L.b0.fr 0
    have c01 := L.b0.c31
    have f01 := L.b0.fr 1
    have c02 := L.b0.c32
    have f02 := L.b0.fr 2
    have c10 := L.tl.b0.c30
    have c11 := L.tl.b0.c31
    have c12 := L.tl.b0.c32
    go_wp2_with fail
    have LP := L.putQ (by omega) (by first | (simp; done) | (simp; omega)) (ng (sg false p)) A9 B9 (zl (sg false p)) c9 (len (q)) d9
    have k0 := LP.b0.c30
    have k1 := LP.b0.c31
    have k2 := LP.b0.c32
    unfold put3 at k0 k1 k2
    exact bodyPost_ret (v := .tuple #[.agg #[.bool (ng (sg false p)), .slice A9 (zl (sg false p)) c9, .slice B9 (len (q)) d9], .int .i64 0]) (by simp [results, Tryz.results155, go_sem, k0, k1, k2]) rfl ⟨_, rfl, isP_of LP.hz LP.hn, LP.below⟩
  · obtain rfl : o = t := by rw [← HTT.out]; rfl
    go_wp2_with fail
    refine (H1.out _ _ (L.getN (by simp))).mono ?_
    rintro e w2 ⟨v1, rfl, o9⟩
    clear c00 f00 c01 f01 c02 f02 c10 c11 c12
    replace L := (L.step o9.below).n o9.isN
    clear o9
    have c00 := L.b0.c30
    have f00 := L.b0.fr 0
    have c01 := L.b0.c31
    have f01 := L.b0.fr 1
    have c02 := L.b0.c32
    have f02 := L.b0.fr 2
    have c10 := L.tl.b0.c30
    have c11 := L.tl.b0.c31
    have c12 := L.tl.b0.c32
    go_wp2_with fail
    refine (HS.out _ _ _ L.hn).mono ?_
    rintro e w3 ⟨v2, rfl, iz, be⟩
    clear c00 f00 c01 f01 c02 f02 c10 c11 c12
    replace L := (L.step be).z iz
    obtain ⟨A9, c9, rfl, _⟩ := iz.form
    clear be iz
    have c00 := L.b0.c30
    have f00 := L.b0.fr 0
    have c01 := L.b0.c31
    have f01 := L.b0.fr 1
    have c02 := L.b0.c32
    have f02 := L.b0.fr 2
    have c10 := L.tl.b0.c30
    have c11 := L.tl.b0.c31
    have c12 := L.tl.b0.c32
    go_wp2_with fail
    refine (H2.out _ _ (L.getN (by simp))).mono ?_
    rintro e w4 ⟨v3, rfl, o9⟩
    clear c00 f00 c01 f01 c02 f02 c10 c11 c12
    replace L := (L.step o9.below).n o9.isN
    obtain ⟨B9, d9, rfl⟩ := L.hn.form
    clear o9
    have c00 := L.b0.c30
    have f00 := L.b0.fr 0
    have c01 := L.b0.c31
    have f01 := L.b0.fr 1
    have c02 := L.b0.c32
    have f02 := L.b0.fr 2
    have c10 := L.tl.b0.c30
    have c11 := L.tl.b0.c31
    have c12 := L.tl.b0.c32
    go_wp2_with fail
    have LP := L.putQ (by omega) (by first | (simp; done) | (simp; omega)) (ng (sg o p)) A9 B9 (zl (sg o p)) c9 (len (q)) d9
    have k0 := LP.b0.c30
    have k1 := LP.b0.c31
    have k2 := LP.b0.c32
    unfold put3 at k0 k1 k2
    exact bodyPost_ret (v := .tuple #[.agg #[.bool (ng (sg o p)), .slice A9 (zl (sg o p)) c9, .slice B9 (len (q)) d9], .int .i64 0]) (by simp [results, Tryz.results155, go_sem, k0, k1, k2]) rfl ⟨_, rfl, isP_of LP.hz LP.hn, LP.below⟩

end Go.Proofs.YthfabjpbdgieoaaGreatDoor
