/- Joined: RatPw, RdQ, RdPC, RdPD (what the law leans on). -/
import Derived.Test.YtfnklkdbieikeaaGreatDoorBaseP
import Derived.Test.YtfnklkdbieikeaaGreatDoorBaseI
import Derived.Test.YtfnklkdbieikeaaGreatDoorBaseD
import Derived.Test.YtfnklkdbieikeaaGreatDoorBaseF
import Derived.Test.YtfnklkdbieikeaaGreatDoorBaseE
import Derived.Test.YtfnklkdbieikeaaGreatDoorBaseU
import Derived.Test.YtfnklkdbieikeaaGreatDoorBaseZ
import Derived.Test.YtfnklkdbieikeaaGreatDoorJQ1
import Derived.Test.YtfnklkdbieikeaaGreatDoorJQ5
import Derived.Test.YtfnklkdbieikeaaGreatDoorJQ6
import Derived.Deep.Cut
import Derived.Deep.CutRange
import Derived.Deep.DrawnRows
import Derived.Deep.RegionHeld3
namespace Go.Proofs.YtfnklkdbieikeaaGreatDoor
open Go.RowKit
set_option linter.unusedVariables false
set_option linter.unusedSimpArgs false
set_option maxRecDepth 100000
attribute [local go_sem ↓] Go.wp_at_zero Go.wp_at_succ

set_option maxHeartbeats 4000000 in
theorem ppower_nn (k : Nat) (a : Int) (d : Nat) (vx : Value) (w : World) (hx : IsP w vx a d) (la : zl a ≤ 1000) (ld : len d ≤ 1000) (hk : k ≤ 64) :
    Calls Tryz.prog 159 #[vx, .int .i64 (k : Int)] w (RetPE w (sg (ng a && k % 2 == 1) (a.natAbs ^ k)) (d ^ k) 0) := by
  obtain ⟨A, c, B, g, rfl, _, hna, hd⟩ := hx.form
  have la' : len a.natAbs ≤ 1000 := la
  have h1 : len (a.natAbs ^ k) ≤ 1000001 := by
    have h1 := len_pow a.natAbs k
    have h2 : k * len a.natAbs ≤ 64 * 1000 := Nat.mul_le_mul hk (by omega)
    omega
  have H1 := Lib.hid (fun v W h => power_any a.natAbs k v W h (by omega) (by omega))
  have H2 := Lib.hid (fun v W h => power_any d k v W h (by omega) (by omega))
  have HS := Lib.hid (fun b v W h => znatN_any b (a.natAbs ^ k) v W h (by omega))
  have L0 := (((Lq.mk0 w).q hx).n hna).n hd
  clear hx hna hd la'
  obtain ⟨p, hp⟩ : ∃ p, a.natAbs ^ k = p := ⟨_, rfl⟩
  obtain ⟨q, hq⟩ : ∃ q, d ^ k = q := ⟨_, rfl⟩
  rw [hp] at H1 HS h1 ⊢
  rw [hq] at H2 ⊢
  clear hp hq
  obtain ⟨s, hs⟩ : ∃ s, ng a = s := ⟨_, rfl⟩
  rw [hs] at L0 ⊢
  clear hs
  obtain ⟨o, ho⟩ : ∃ o, (k % 2 == 1) = o := ⟨_, rfl⟩
  rw [ho]
  have e1 : ((k : Int).tmod 2 == 1) = o := by
    rw [← ho, Int.tmod_eq_emod_of_nonneg (by omega), Bool.eq_iff_iff]
    simp
    omega
  have e2 : ((k : Int) % 2 == 1) = o := by
    rw [← ho, Bool.eq_iff_iff]
    simp
    omega
  have b1 : decide ((k : Int) < -64) = false := decide_eq_false (by omega)
  have b2 : decide (64 < (k : Int)) = false := decide_eq_false (by omega)
  have b3 : decide ((k : Int) < 0) = false := decide_eq_false (by omega)
  clear ho
  obtain ⟨t, ht⟩ : ∃ t, (s && o) = t := ⟨_, rfl⟩
  rw [ht]
  have HTT := Lib.hid ht
  clear ht
  go_enter Tryz.func159, Tryz.ntmps159
  go_wp2_with fail
  have L := ((L0.varQ (w.heap.size) (by simp) s A B (zl a) c (len d) g).varQ (w.heap.size + 1) (by simp) false none none 0 0 0 0)
  have c00 := L.b0.c30
  have f00 := L.b0.fr 0
  have c01 := L.b0.c31
  have f01 := L.b0.fr 1
  have c02 := L.b0.c32
  have f02 := L.b0.fr 2
  have c10 := L.tl.b0.c30
  have c11 := L.tl.b0.c31
  have c12 := L.tl.b0.c32
  clear c00 f00 c01 f01 c02 f02 c10 c11 c12
  replace L := L.drew
  have c00 := L.b0.c30
  have f00 := L.b0.fr 0
  have c01 := L.b0.c31
  have f01 := L.b0.fr 1
  have c02 := L.b0.c32
  have f02 := L.b0.fr 2
  have c10 := L.tl.b0.c30
  have c11 := L.tl.b0.c31
  have c12 := L.tl.b0.c32
  go_region_held3 (fun w' => w'.cell? ⟨w.heap.size, 0, none⟩ = some (.bool s) ∧ w'.cell? ⟨w.heap.size, 1, none⟩ = some (.slice A (zl a) c) ∧ w'.cell? ⟨w.heap.size, 2, none⟩ = some (.slice B (len d) g)) (first | (with_reducible exact ⟨L.tl.b0.c30, L.tl.b0.c31, L.tl.b0.c32⟩) | exact ⟨L.tl.b0.c30, L.tl.b0.c31, L.tl.b0.c32⟩) (fail)
  cases s
  · obtain rfl : false = t := HTT.out
    go_wp2_with fail
    refine (H1.out _ _ (L.getN (by simp))).mono ?_
    rintro e w1 ⟨v1, rfl, o9⟩
    clear c00 f00 c01 f01 c02 f02 c10 c11 c12
    replace L := (L.step o9.below).n o9.isN
    clear o9
    have c00 := L.b0.c30
    have f00 := L.b0.fr 0
    have c01 := L.b0.c31
    have f01 := L.b0.fr 1
    have c02 := L.b0.c32
    have f02 := L.b0.fr 2
    have c10 := L.tl.b0.c30
    have c11 := L.tl.b0.c31
    have c12 := L.tl.b0.c32
    go_wp2_with fail
    refine (HS.out _ _ _ L.hn).mono ?_
    rintro e w2 ⟨v2, rfl, iz, be⟩
    clear c00 f00 c01 f01 c02 f02 c10 c11 c12
    replace L := (L.step be).z iz
    obtain ⟨A9, c9, rfl, _⟩ := iz.form
    clear be iz
    have c00 := L.b0.c30
    have f00 := L.b0.fr 0
    have c01 := L.b0.c31
    have f01 := L.b0.fr 1
    have c02 := L.b0.c32
    have f02 := L.b0.fr 2
    have c10 := L.tl.b0.c30
    have c11 := L.tl.b0.c31
    have c12 := L.tl.b0.c32
    go_wp2_with fail
    refine (H2.out _ _ (L.getN (by simp))).mono ?_
    rintro e w3 ⟨v3, rfl, o9⟩
    clear c00 f00 c01 f01 c02 f02 c10 c11 c12
    replace L := (L.step o9.below).n o9.isN
    obtain ⟨B9, d9, rfl⟩ := L.hn.form
    clear o9
    have c00 := L.b0.c30
    have f00 := L.b0.fr 0
    have c01 := L.b0.c31
    have f01 := L.b0.fr 1
    have c02 := L.b0.c32
    have f02 := L.b0.fr 2
    have c10 := L.tl.b0.c30
    have c11 := L.tl.b0.c31
    have c12 := L.tl.b0.c32
    go_wp2_with fail
    have LP := L.putQ (by omega) (by first | (simp; done) | (simp; omega)) (ng (sg false p)) A9 B9 (zl (sg false p)) c9 (len (q)) d9
    have k0 := LP.b0.c30
    have k1 := LP.b0.c31
    have k2 := LP.b0.c32
    unfold put3 at k0 k1 k2
    exact bodyPost_ret (v := .tuple #[.agg #[.bool (ng (sg false p)), .slice A9 (zl (sg false p)) c9, .slice B9 (len (q)) d9], .int .i64 0]) (by simp [results, Tryz.results159, go_sem, k0, k1, k2]) rfl ⟨_, rfl, isP_of LP.hz LP.hn, LP.below⟩
  · obtain rfl : o = t := by rw [← HTT.out]; rfl
    go_wp2_with fail
    refine (H1.out _ _ (L.getN (by simp))).mono ?_
    rintro e w1 ⟨v1, rfl, o9⟩
    clear c00 f00 c01 f01 c02 f02 c10 c11 c12
    replace L := (L.step o9.below).n o9.isN
    clear o9
    have c00 := L.b0.c30
    have f00 := L.b0.fr 0
    have c01 := L.b0.c31
    have f01 := L.b0.fr 1
    have c02 := L.b0.c32
    have f02 := L.b0.fr 2
    have c10 := L.tl.b0.c30
    have c11 := L.tl.b0.c31
    have c12 := L.tl.b0.c32
    go_wp2_with fail
    refine (HS.out _ _ _ L.hn).mono ?_
    rintro e w2 ⟨v2, rfl, iz, be⟩
    clear c00 f00 c01 f01 c02 f02 c10 c11 c12
    replace L := (L.step be).z iz
    obtain ⟨A9, c9, rfl, _⟩ := iz.form
    clear be iz
    have c00 := L.b0.c30
    have f00 := L.b0.fr 0
    have c01 := L.b0.c31
    have f01 := L.b0.fr 1
    have c02 := L.b0.c32
    have f02 := L.b0.fr 2
    have c10 := L.tl.b0.c30
    have c11 := L.tl.b0.c31
    have c12 := L.tl.b0.c32
    go_wp2_with fail
    refine (H2.out _ _ (L.getN (by simp))).mono ?_
    rintro e w3 ⟨v3, rfl, o9⟩
    clear c00 f00 c01 f01 c02 f02 c10 c11 c12
    replace L := (L.step o9.below).n o9.isN
    obtain ⟨B9, d9, rfl⟩ := L.hn.form
    clear o9
    have c00 := L.b0.c30
    have f00 := L.b0.fr 0
    have c01 := L.b0.c31
    have f01 := L.b0.fr 1
    have c02 := L.b0.c32
    have f02 := L.b0.fr 2
    have c10 := L.tl.b0.c30
    have c11 := L.tl.b0.c31
    have c12 := L.tl.b0.c32
    go_wp2_with fail
    have LP := L.putQ (by omega) (by first | (simp; done) | (simp; omega)) (ng (sg o p)) A9 B9 (zl (sg o p)) c9 (len (q)) d9
    have k0 := LP.b0.c30
    have k1 := LP.b0.c31
    have k2 := LP.b0.c32
    unfold put3 at k0 k1 k2
    exact bodyPost_ret (v := .tuple #[.agg #[.bool (ng (sg o p)), .slice A9 (zl (sg o p)) c9, .slice B9 (len (q)) d9], .int .i64 0]) (by simp [results, Tryz.results159, go_sem, k0, k1, k2]) rfl ⟨_, rfl, isP_of LP.hz LP.hn, LP.below⟩
set_option maxHeartbeats 4000000 in
theorem ppower_neg (k : Nat) (a : Int) (d : Nat) (N : Int) (hN : N = -(k : Int)) (vx : Value) (w : World) (hx : IsP w vx a d) (la : zl a ≤ 1000) (ld : len d ≤ 1000) (hk : k ≤ 64) (hk0 : 0 < k) (ha0 : a ≠ 0) :
    Calls Tryz.prog 159 #[vx, .int .i64 N] w (RetPE w (sg (ng a && k % 2 == 1) (d ^ k)) (a.natAbs ^ k) 0) := by
  have HSG := Lib.hid (fun v W h => psign_any a d v W h (by omega))
  have hK : (cmpI a 0 == 0) = false := by
    rw [beq_eq_false_iff_ne]
    unfold cmpI
    (repeat' split) <;> omega
  generalize cmpI a 0 = K at *
  obtain ⟨A, c, B, g, rfl, _, hna, hd⟩ := hx.form
  have la' : len a.natAbs ≤ 1000 := la
  have h1 : len (d ^ k) ≤ 1000001 := by
    have h1 := len_pow d k
    have h2 : k * len d ≤ 64 * 1000 := Nat.mul_le_mul hk (by omega)
    omega
  have H1 := Lib.hid (fun v W h => power_any d k v W h (by omega) (by omega))
  have H2 := Lib.hid (fun v W h => power_any a.natAbs k v W h (by omega) (by omega))
  have HS := Lib.hid (fun b v W h => znatN_any b (d ^ k) v W h (by omega))
  have L0 := (((Lq.mk0 w).q hx).n hna).n hd
  clear hx hna hd la'
  obtain ⟨p, hp⟩ : ∃ p, d ^ k = p := ⟨_, rfl⟩
  obtain ⟨q, hq⟩ : ∃ q, a.natAbs ^ k = q := ⟨_, rfl⟩
  rw [hp] at H1 HS h1 ⊢
  rw [hq] at H2 ⊢
  clear hp hq
  obtain ⟨s, hs⟩ : ∃ s, ng a = s := ⟨_, rfl⟩
  rw [hs] at L0 ⊢
  clear hs
  obtain ⟨o, ho⟩ : ∃ o, (k % 2 == 1) = o := ⟨_, rfl⟩
  rw [ho]
  have e1 : ((k : Int).tmod 2 == 1) = o := by
    rw [← ho, Int.tmod_eq_emod_of_nonneg (by omega), Bool.eq_iff_iff]
    simp
    omega
  have e2 : ((k : Int) % 2 == 1) = o := by
    rw [← ho, Bool.eq_iff_iff]
    simp
    omega
  have b1 : decide (N < -64) = false := decide_eq_false (by omega)
  have b2 : decide (64 < N) = false := decide_eq_false (by omega)
  have b3 : decide (N < 0) = true := decide_eq_true (by omega)
  clear ho
  have hw : IntKind.i64.wrap (-N) = (k : Int) := by rw [IntKind.wrap_i64]; omega
  clear hN hk0 ha0
  obtain ⟨t, ht⟩ : ∃ t, (s && o) = t := ⟨_, rfl⟩
  rw [ht]
  have HTT := Lib.hid ht
  clear ht
  go_enter Tryz.func159, Tryz.ntmps159
  go_wp2_with fail
  have L := ((L0.varQ (w.heap.size) (by simp) s A B (zl a) c (len d) g).varQ (w.heap.size + 1) (by simp) false none none 0 0 0 0)
  have c00 := L.b0.c30
  have f00 := L.b0.fr 0
  have c01 := L.b0.c31
  have f01 := L.b0.fr 1
  have c02 := L.b0.c32
  have f02 := L.b0.fr 2
  have c10 := L.tl.b0.c30
  have c11 := L.tl.b0.c31
  have c12 := L.tl.b0.c32
  refine (HSG.out _ _ (L.getQ (by simp))).mono ?_
  rintro e w1 ⟨rfl, be⟩
  clear c00 f00 c01 f01 c02 f02 c10 c11 c12
  replace L := L.step be
  clear be
  have c00 := L.b0.c30
  have f00 := L.b0.fr 0
  have c01 := L.b0.c31
  have f01 := L.b0.fr 1
  have c02 := L.b0.c32
  have f02 := L.b0.fr 2
  have c10 := L.tl.b0.c30
  have c11 := L.tl.b0.c31
  have c12 := L.tl.b0.c32
  go_wp2_with fail
  clear c00 f00 c01 f01 c02 f02 c10 c11 c12
  replace L := L.drew
  have c00 := L.b0.c30
  have f00 := L.b0.fr 0
  have c01 := L.b0.c31
  have f01 := L.b0.fr 1
  have c02 := L.b0.c32
  have f02 := L.b0.fr 2
  have c10 := L.tl.b0.c30
  have c11 := L.tl.b0.c31
  have c12 := L.tl.b0.c32
  go_region_held3 (fun w' => w'.cell? ⟨w.heap.size, 0, none⟩ = some (.bool s) ∧ w'.cell? ⟨w.heap.size, 1, none⟩ = some (.slice A (zl a) c) ∧ w'.cell? ⟨w.heap.size, 2, none⟩ = some (.slice B (len d) g)) (first | (with_reducible exact ⟨L.tl.b0.c30, L.tl.b0.c31, L.tl.b0.c32⟩) | exact ⟨L.tl.b0.c30, L.tl.b0.c31, L.tl.b0.c32⟩) (fail)
  cases s
  · obtain rfl : false = t := HTT.out
    go_wp2_with fail
    refine (H1.out _ _ (L.getN (by simp))).mono ?_
    rintro e w2 ⟨v1, rfl, o9⟩
    clear c00 f00 c01 f01 c02 f02 c10 c11 c12
    replace L := (L.step o9.below).n o9.isN
    clear o9
    have c00 := L.b0.c30
    have f00 := L.b0.fr 0
    have c01 := L.b0.c31
    have f01 := L.b0.fr 1
    have c02 := L.b0.c32
    have f02 := L.b0.fr 2
    have c10 := L.tl.b0.c30
    have c11 := L.tl.b0.c31
    have c12 := L.tl.b0.c32
    go_wp2_with fail
    refine (HS.out _ _ _ L.hn).mono ?_
    rintro e w3 ⟨v2, rfl, iz, be⟩
    clear c00 f00 c01 f01 c02 f02 c10 c11 c12
    replace L := (L.step be).z iz
    obtain ⟨A9, c9, rfl, _⟩ := iz.form
    clear be iz
    have c00 := L.b0.c30
    have f00 := L.b0.fr 0
    have c01 := L.b0.c31
    have f01 := L.b0.fr 1
    have c02 := L.b0.c32
    have f02 := L.b0.fr 2
    have c10 := L.tl.b0.c30
    have c11 := L.tl.b0.c31
    have c12 := L.tl.b0.c32
    go_wp2_with fail
    refine (H2.out _ _ (L.getN (by simp))).mono ?_
    rintro e w4 ⟨v3, rfl, o9⟩
    clear c00 f00 c01 f01 c02 f02 c10 c11 c12
    replace L := (L.step o9.below).n o9.isN
    obtain ⟨B9, d9, rfl⟩ := L.hn.form
    clear o9
    have c00 := L.b0.c30
    have f00 := L.b0.fr 0
    have c01 := L.b0.c31
    have f01 := L.b0.fr 1
    have c02 := L.b0.c32
    have f02 := L.b0.fr 2
    have c10 := L.tl.b0.c30
    have c11 := L.tl.b0.c31
    have c12 := L.tl.b0.c32
    go_wp2_with fail
    have LP := L.putQ (by omega) (by first | (simp; done) | (simp; omega)) (ng (sg false p)) A9 B9 (zl (sg false p)) c9 (len (q)) d9
    have k0 := LP.b0.c30
    have k1 := LP.b0.c31
    have k2 := LP.b0.c32
    unfold put3 at k0 k1 k2
    exact bodyPost_ret (v := .tuple #[.agg #[.bool (ng (sg false p)), .slice A9 (zl (sg false p)) c9, .slice B9 (len (q)) d9], .int .i64 0]) (by simp [results, Tryz.results159, go_sem, k0, k1, k2]) rfl ⟨_, rfl, isP_of LP.hz LP.hn, LP.below⟩
  · obtain rfl : o = t := by rw [← HTT.out]; rfl
    go_wp2_with fail
    refine (H1.out _ _ (L.getN (by simp))).mono ?_
    rintro e w2 ⟨v1, rfl, o9⟩
    clear c00 f00 c01 f01 c02 f02 c10 c11 c12
    replace L := (L.step o9.below).n o9.isN
    clear o9
    have c00 := L.b0.c30
    have f00 := L.b0.fr 0
    have c01 := L.b0.c31
    have f01 := L.b0.fr 1
    have c02 := L.b0.c32
    have f02 := L.b0.fr 2
    have c10 := L.tl.b0.c30
    have c11 := L.tl.b0.c31
    have c12 := L.tl.b0.c32
    go_wp2_with fail
    refine (HS.out _ _ _ L.hn).mono ?_
    rintro e w3 ⟨v2, rfl, iz, be⟩
    clear c00 f00 c01 f01 c02 f02 c10 c11 c12
    replace L := (L.step be).z iz
    obtain ⟨A9, c9, rfl, _⟩ := iz.form
    clear be iz
    have c00 := L.b0.c30
    have f00 := L.b0.fr 0
    have c01 := L.b0.c31
    have f01 := L.b0.fr 1
    have c02 := L.b0.c32
    have f02 := L.b0.fr 2
    have c10 := L.tl.b0.c30
    have c11 := L.tl.b0.c31
    have c12 := L.tl.b0.c32
    go_wp2_with fail
    refine (H2.out _ _ (L.getN (by simp))).mono ?_
    rintro e w4 ⟨v3, rfl, o9⟩
    clear c00 f00 c01 f01 c02 f02 c10 c11 c12
    replace L := (L.step o9.below).n o9.isN
    obtain ⟨B9, d9, rfl⟩ := L.hn.form
    clear o9
    have c00 := L.b0.c30
    have f00 := L.b0.fr 0
    have c01 := L.b0.c31
    have f01 := L.b0.fr 1
    have c02 := L.b0.c32
    have f02 := L.b0.fr 2
    have c10 := L.tl.b0.c30
    have c11 := L.tl.b0.c31
    have c12 := L.tl.b0.c32
    go_wp2_with fail
    have LP := L.putQ (by omega) (by first | (simp; done) | (simp; omega)) (ng (sg o p)) A9 B9 (zl (sg o p)) c9 (len (q)) d9
    have k0 := LP.b0.c30
    have k1 := LP.b0.c31
    have k2 := LP.b0.c32
    unfold put3 at k0 k1 k2
    exact bodyPost_ret (v := .tuple #[.agg #[.bool (ng (sg o p)), .slice A9 (zl (sg o p)) c9, .slice B9 (len (q)) d9], .int .i64 0]) (by simp [results, Tryz.results159, go_sem, k0, k1, k2]) rfl ⟨_, rfl, isP_of LP.hz LP.hn, LP.below⟩

theorem sg_pow (a : Int) (k : Nat) : sg (ng a && k % 2 == 1) (a.natAbs ^ k) = a ^ k := by
  rcases (show a < 0 ∨ 0 ≤ a by omega) with h | h
  · rw [ng_yes h, Bool.true_and]
    obtain ⟨b, rfl⟩ : ∃ b : Nat, a = -(b : Int) := ⟨a.natAbs, by omega⟩
    rw [Int.natAbs_neg, Int.natAbs_natCast]
    clear h
    induction k with
    | zero => rw [Nat.pow_zero, Int.pow_zero]; rfl
    | succ k ih =>
      rw [Int.pow_succ, ← ih, Nat.pow_succ]
      rcases Nat.mod_two_eq_zero_or_one k with h2 | h2
      · rw [h2, show (k + 1) % 2 = 1 by omega]
        show -((b ^ k * b : Nat) : Int) = ((b ^ k : Nat) : Int) * -(b : Int)
        rw [Int.natCast_mul, Int.mul_neg]
      · rw [h2, show (k + 1) % 2 = 0 by omega]
        show ((b ^ k * b : Nat) : Int) = -((b ^ k : Nat) : Int) * -(b : Int)
        rw [Int.natCast_mul, Int.neg_mul_neg]
  · rw [ng_no h, Bool.false_and]
    obtain ⟨b, rfl⟩ : ∃ b : Nat, a = (b : Int) := ⟨a.natAbs, by omega⟩
    rw [Int.natAbs_natCast]
    exact Int.natCast_pow b k
/-- The inverse of a power. -/
theorem inv_val {a : Int} (ha : a ≠ 0) (k : Nat) (X Y : Nat) (hY : 0 < Y) : Rat.divInt (sg (ng a && k % 2 == 1) 1 * (X : Int)) ((a.natAbs ^ k * Y : Nat) : Int) = (Rat.divInt (a ^ k * (Y : Int)) (X : Int))⁻¹ := by
  rw [Rat.inv_divInt, ← sg_pow a k]
  have hp : 0 < a.natAbs ^ k := Nat.pow_pos (by omega)
  have h1 : ((a.natAbs ^ k * Y : Nat) : Int) ≠ 0 := by
    have := Nat.mul_pos hp hY
    omega
  generalize (ng a && k % 2 == 1) = b
  generalize a.natAbs ^ k = A at *
  have h2 : sg b A * (Y : Int) ≠ 0 := by
    refine Int.mul_ne_zero ?_ (by omega)
    cases b <;> unfold sg <;> simp <;> omega
  rw [Rat.divInt_eq_divInt_iff h1 h2, Int.natCast_mul]
  cases b
  · show ((1 : Nat) : Int) * (X : Int) * ((A : Int) * (Y : Int)) = (X : Int) * ((A : Int) * (Y : Int))
    rw [show ((1 : Nat) : Int) = 1 from rfl, Int.one_mul]
  · show -((1 : Nat) : Int) * (X : Int) * (-(A : Int) * (Y : Int)) = (X : Int) * ((A : Int) * (Y : Int))
    rw [show ((1 : Nat) : Int) = 1 from rfl, Int.neg_mul, Int.neg_mul, Int.one_mul, Int.neg_mul, Int.mul_neg, Int.neg_neg]
/-- How long a power of a short number is. -/
theorem len_pw {x k K : Nat} (h : len x * k ≤ K) : len (x ^ k) ≤ K + 1 := Nat.le_trans (len_pow x k) (by rw [Nat.mul_comm]; omega)
def PB (m e j : Int) : Prop := zl m ≤ 400 ∧ (-10000 ≤ e ∧ e ≤ 10000) ∧ (-64 ≤ j ∧ j ≤ 64) ∧ (zl m + (e.natAbs / 32 + 1)) * j.natAbs ≤ 780
theorem pb_len {m e j : Int} (h : PB m e j) : zl m * j.natAbs ≤ 780 ∧ (zl m + (e.natAbs / 32 + 1)) * j.natAbs ≤ 780 ∧ (e * j).natAbs / 32 + zl m * j.natAbs ≤ 780 ∧ (e * j).natAbs ≤ 640000 := by
  obtain ⟨_, h1, h2, h3⟩ := h
  have h4 := h3
  rw [Nat.add_mul] at h4
  have h5 : (e * j).natAbs / 32 ≤ (e.natAbs / 32 + 1) * j.natAbs := by
    rw [Int.natAbs_mul]
    have h6 : e.natAbs ≤ 32 * (e.natAbs / 32 + 1) := by omega
    have h7 := Nat.mul_le_mul_right j.natAbs h6
    rw [Nat.mul_assoc] at h7
    omega
  have h8 : (e * j).natAbs ≤ 10000 * 64 := by
    rw [Int.natAbs_mul]
    exact Nat.mul_le_mul (by omega) (by omega)
  exact ⟨by omega, h3, by omega, h8⟩
/-- The parts of the program's power. -/
def dpN (m j : Int) : Int := if j < 0 then sg (ng m && j.natAbs % 2 == 1) 1 else m ^ j.natAbs
def dpD (m j : Int) : Nat := if j < 0 then m.natAbs ^ j.natAbs else 1
theorem ppow_part {m e j : Int} (hb : PB m e j) (h0 : j < 0 → m ≠ 0) (v : Value) (W : World) (h : IsP W v m 1) : Calls Tryz.prog 159 #[v, .int .i64 j] W (RetPE W (dpN m j) (dpD m j) 0) := by
  obtain ⟨b1, b2, b3, _⟩ := hb
  have l1 : len 1 ≤ 1 := len_le1 (by decide)
  unfold dpN dpD
  rcases Int.lt_or_le j 0 with hj | hj
  · rw [if_pos hj, if_pos hj]
    have := ppower_neg j.natAbs m 1 j (by omega) v W h (by omega) (by omega) (by omega) (by omega) (h0 hj)
    rwa [Nat.one_pow] at this
  · rw [if_neg (by omega), if_neg (by omega)]
    have := ppower_nn j.natAbs m 1 v W h (by omega) (by omega) (by omega)
    rwa [Nat.one_pow, sg_pow, show ((j.natAbs : Nat) : Int) = j from by omega] at this
theorem dpow_val {m e j : Int} (h0 : j < 0 → m ≠ 0) : 0 < dpD m j * 2 ^ (-(e * j)).toNat ∧ Rat.divInt (dpN m j * 2 ^ (e * j).toNat) ((dpD m j * 2 ^ (-(e * j)).toNat : Nat) : Int) = pw (dq m e) j := by
  unfold dpN dpD
  have t1 := two_pos8 (-(e * j)).toNat
  rcases Int.lt_or_le j 0 with hj | hj
  · rw [if_pos hj, if_pos hj]
    obtain ⟨k, hk⟩ : ∃ k : Nat, j = -(k : Int) := ⟨(-j).toNat, by omega⟩
    have hjk : j.natAbs = k := by omega
    have hm := h0 hj
    have hp : 0 < m.natAbs ^ k := Nat.pow_pos (by omega)
    rw [hjk]
    refine ⟨Nat.mul_pos hp t1, ?_⟩
    have h := inv_val hm k (2 ^ (e * j).toNat) (2 ^ (-(e * j)).toNat) t1
    rw [cast2, cast2] at h
    rw [h, hk, pw_neg _ (by omega), qpow_dq]
    unfold dq
    rw [show -(e * -(k : Int)) = e * (k : Int) from by rw [Int.mul_neg, Int.neg_neg], show e * -(k : Int) = -(e * (k : Int)) from by rw [Int.mul_neg], cast2]
  · rw [if_neg (by omega), if_neg (by omega)]
    obtain ⟨k, hk⟩ : ∃ k : Nat, j = (k : Int) := ⟨j.toNat, by omega⟩
    have hjk : j.natAbs = k := by omega
    rw [hjk, Nat.one_mul, hk, pw_nat, qpow_dq]
    exact ⟨by rw [← hk]; exact t1, rfl⟩
theorem dpow_len {m e j : Int} (hb : PB m e j) : zl (dpN m j) ≤ 782 ∧ len (dpD m j) ≤ 782 ∧ zl (dpN m j * 2 ^ (e * j).toNat) ≤ 800 ∧ len (dpD m j * 2 ^ (-(e * j)).toNat) ≤ 800 := by
  obtain ⟨l1, _, l3, _⟩ := pb_len hb
  have hn : zl (dpN m j) ≤ zl m * j.natAbs + 1 := by
    unfold dpN
    split
    · rw [zl_sg]
      have := len_le1 (show 1 < 4294967296 by omega)
      omega
    · rw [← sg_pow, zl_sg]
      exact len_pw (Nat.le_refl _)
  have hd : len (dpD m j) ≤ zl m * j.natAbs + 1 := by
    unfold dpD
    split
    · exact len_pw (Nat.le_refl _)
    · have := len_le1 (show 1 < 4294967296 by omega)
      omega
  have z1 := zl_two (dpN m j) (e * j).toNat
  have z2 := len_mul (dpD m j) (2 ^ (-(e * j)).toNat)
  have z3 := len_two (-(e * j)).toNat
  have y1 : (e * j).toNat / 32 ≤ (e * j).natAbs / 32 := Nat.div_le_div_right (by omega)
  have y2 : (-(e * j)).toNat / 32 ≤ (e * j).natAbs / 32 := Nat.div_le_div_right (by omega)
  exact ⟨by omega, by omega, by omega, by omega⟩


set_option maxHeartbeats 16000000 in
theorem dpower_any (m e j : Int) (vx : Value) (w : World) (hx : IsD w vx m e) (hb : PB m e j) (h0 : j < 0 → m ≠ 0) :
    Calls Tryz.prog 112 #[vx, .int .i64 j] w (RetP w (dpN m j * 2 ^ (e * j).toNat) (dpD m j * 2 ^ (-(e * j)).toNat)) := by
  obtain ⟨A, c, rfl, _, hn1⟩ := hx.form
  have L0 := (Lq.mk0 w).n hn1
  obtain ⟨z1, z2, z3, z4⟩ := dpow_len hb
  obtain ⟨_, _, _, z5⟩ := pb_len hb
  have HO := Lib.hid (fun W => zof_any 1 W (by omega) (by omega))
  have g2 := fun v W h => ppow_part hb h0 v W h
  obtain ⟨p, hp⟩ : ∃ z, e * j = z := ⟨_, rfl⟩
  rw [hp] at z3 z4 z5 ⊢
  have w1 : IntKind.i64.wrap (e * j) = p := by rw [hp, IntKind.wrap_i64]; omega
  obtain ⟨a, ha⟩ : ∃ a : Nat, p.toNat = a := ⟨_, rfl⟩
  obtain ⟨b, hb'⟩ : ∃ a : Nat, (-p).toNat = a := ⟨_, rfl⟩
  rw [ha] at z3 ⊢
  rw [hb'] at z4 ⊢
  obtain ⟨p2, hp2⟩ : ∃ z, -p = z := ⟨_, rfl⟩
  have w2 : IntKind.i64.wrap (-p) = p2 := by rw [IntKind.wrap_i64]; omega
  have x1 : max p 0 = (a : Int) := by omega
  have x2 : max p2 0 = (b : Int) := by omega
  obtain ⟨N, hN⟩ : ∃ z, dpN m j = z := ⟨_, rfl⟩
  obtain ⟨D1, hD⟩ : ∃ z, dpD m j = z := ⟨_, rfl⟩
  rw [hN] at z1 z3 g2 ⊢
  rw [hD] at z2 z4 g2 ⊢
  have g3 := fun v W h => zshl_any N v W h (by omega) a (by omega)
  have g4 := fun v W h => zshl_any (D1 : Int) v W h (show zl (D1 : Int) ≤ 274877906944 from Nat.le_trans z2 (by omega)) b (by omega)
  have hc2 : (D1 : Int) * 2 ^ b = ((D1 * 2 ^ b : Nat) : Int) := by rw [Int.natCast_mul, cast2]
  rw [hc2] at g4
  obtain ⟨a9, ha9⟩ : ∃ z, N * 2 ^ a = z := ⟨_, rfl⟩
  obtain ⟨d9, hd9⟩ : ∃ z, D1 * 2 ^ b = z := ⟨_, rfl⟩
  rw [ha9] at g3 ⊢
  rw [hd9] at g4 ⊢
  have H2 := Lib.hid g2
  have H3 := Lib.hid g3
  have H4 := Lib.hid g4
  have hfd : ∀ (x : Bool) (E : Option Addr) (n1 n2 : Nat) (W : World), (Instr.field 27 (.agg #[.bool x, .slice E n1 n2]) 1).run Tryz.prog W = .ok (.slice E n1 n2) W := fun _ _ _ _ _ => by kernel_rfl
  clear g2 g3 g4 hp ha hb' hp2 hN hD hc2 ha9 hd9 z1 z2 z3 z4 z5 hb h0 hx hn1
  go_enter Tryz.func112, Tryz.ntmps112
  go_wp2_with fail
  have L := ((L0.varD (w.heap.size) (by simp) (ng m) A (zl m) c e).varQ (w.heap.size + 1) (by simp) false none none 0 0 0 0)
  (try go_wp2_with fail)
  obtain ⟨V, hV, L9⟩ := L.name
  rw [hV]
  clear hV L
  have L := L9
  clear L9
  have hb1 := L.tl.b0.lt
  have hb2 := L.b0.lt
  have Q0 := Lib.hid (fun Z (hZ : Below V.heap.size V Z) => (L.tl.b0.mono hZ).c30)
  have Q1 := Lib.hid (fun Z (hZ : Below V.heap.size V Z) => (L.tl.b0.mono hZ).c31)
  have D0 : Dq V V [(.slice A (zl m) c, m.natAbs)] [] [] [] := ⟨(Lq.mk0 V).n (L.getN (v := .slice A (zl m) c) (x := m.natAbs) (by simp)), List.nodup_nil, fun p hp => by cases hp⟩
  have D := D0.drew
  have LL := Lib.hid L
  clear L
  obtain ⟨K, hK⟩ : ∃ K, V.heap.size = K := ⟨_, rfl⟩
  have hz0 : K ≤ V.heap.size := by omega
  have hc1 : w.heap.size < K := by omega
  have hmd : V.drew.heap.size = K := hK
  go_cut [5, 6] from 10 to 20 (fun s5 s6 wx => s6 = .int .i64 0 ∧ Made1Q V N D1 s5 wx)
  case first =>
    go_region_held3 (fun w' => w'.cell? ⟨w.heap.size, 0, none⟩ = some (.bool (ng m)) ∧ w'.cell? ⟨w.heap.size, 1, none⟩ = some (.slice A (zl m) c)) (((try dsimp only); refine ⟨?_, ?_⟩ <;> (repeat (first | (with_reducible exact Q0.out _ D.lq.below) | (with_reducible exact Q0.out _ D0.lq.below) | (with_reducible exact Q1.out _ D.lq.below) | (with_reducible exact Q1.out _ D0.lq.below) | (with_reducible refine c_alloc _ ?_) | (with_reducible refine c_drew ?_) | (with_reducible refine c_set ?_ (by assumption) ?_) | omega)))) (first | (go_at_call 86; (with_reducible refine (HO.out _).mono ?_); rintro e9 wh ⟨vh, rfl, iz, be⟩; obtain ⟨A7, c7, rfl, in7⟩ := iz.form; have in8 : IsN _ (.slice A7 (zl 1) c7) 1 := in7; (first | (replace D := (D.step be).n in8) | (replace D := ((D.boxM hmd false none none 0 0 0 0).step be).n in8) | (replace D := ((D.box false none none 0 0 0 0).step be).n in8)); have hz := be.size; (try simp at hz); clear iz in7; (try (have x00 := D.lq.b0.c30; have x01 := D.lq.b0.c31; have x02 := D.lq.b0.c32; have y00 := D.lq.b0.fr 0; have y01 := D.lq.b0.fr 1; have y02 := D.lq.b0.fr 2)); (try obtain ⟨na, nb, nc, nd, nl⟩ := D.n0)) | (go_at_call 159; (with_reducible refine (H2.out _ _ ?_).mono ?_); (· (first | (with_reducible refine isP_nn (a := m) (d := 1) (D.getN ?_) (D.getN ?_) <;> (repeat (first | (with_reducible exact List.mem_cons_self) | apply List.mem_cons_of_mem))) | (with_reducible refine isP_nn (a := m) (d := 1) ((D.box false none none 0 0 0 0).getN ?_) ((D.box false none none 0 0 0 0).getN ?_) <;> (repeat (first | (with_reducible exact List.mem_cons_self) | apply List.mem_cons_of_mem))) | (with_reducible refine isP_nn (a := m) (d := 1) ((D0.box false none none 0 0 0 0).drew.getN ?_) ((D0.box false none none 0 0 0 0).drew.getN ?_) <;> (repeat (first | (with_reducible exact List.mem_cons_self) | apply List.mem_cons_of_mem))))); rintro e9 wh ⟨vh, rfl, iq, be⟩; (first | (replace D := (D.step be).q iq) | (replace D := ((D.boxM hmd false none none 0 0 0 0).step be).q iq) | (replace D := ((D.box false none none 0 0 0 0).step be).q iq)); have hz := be.size; (try simp at hz); obtain ⟨A8, c8, B8, k8, rfl, _, _, _⟩ := iq.form; (try (have x00 := D.lq.b0.c30; have x01 := D.lq.b0.c31; have x02 := D.lq.b0.c32; have y00 := D.lq.b0.fr 0; have y01 := D.lq.b0.fr 1; have y02 := D.lq.b0.fr 2)); (try obtain ⟨na, nb, nc, nd, nl⟩ := D.n0)))
    all_goals
      go_wp2_with fail
      go_meet
      refine ⟨rfl, ?_⟩
      first
      | ((with_reducible refine made1q_a D ?_) <;> (repeat (first | (with_reducible exact List.mem_cons_self) | apply List.mem_cons_of_mem)))
      | ((with_reducible refine made1q_b D ?_) <;> (repeat (first | (with_reducible exact List.mem_cons_self) | apply List.mem_cons_of_mem)))
  case rest =>
    obtain ⟨rfl, g5, A8, c8, B8, k8, rfl, hg5, bw, hbx, hqq⟩ := hcut
    have L := ((LL.out.step bw).q hqq).b hbx
    clear D D0 hmd hz0 hK hb1 Q0 Q1 LL bw hbx hqq hfd HO H2
    generalize wc = wd at *
    have cel00 := L.b0.c30
    have cel01 := L.b0.c31
    have cel02 := L.b0.c32
    have cel20 := L.tl.tl.b0.c30
    have cel21 := L.tl.tl.b0.c31
    have cel22 := L.tl.tl.b0.c32
    (try go_wp2_with fail)
    clear cel00 cel01 cel02 cel20 cel21 cel22
    obtain ⟨A8', c8', B8', k8', e8, iz8, _, in8⟩ := (L.getQ (v := .agg #[.bool (ng N), .slice A8 (zl N) c8, .slice B8 (len D1) k8]) (a := N) (d := D1) (by simp)).form
    simp only [Value.agg.injEq, Array.mk.injEq, List.cons.injEq, Value.slice.injEq, true_and, and_true] at e8
    obtain ⟨⟨rfl, rfl⟩, rfl, rfl⟩ := e8
    replace L := (L.z (isZ_nat in8)).z iz8
    clear iz8 in8
    refine (H3.out _ _ (L.getZ (v := .agg #[.bool (ng N), .slice A8 (zl N) c8]) (by simp))).mono ?_
    rintro e w21 ⟨vv, rfl, iz, be⟩
    replace L := (L.step be).z iz
    obtain ⟨A9, c9, rfl, in9⟩ := iz.form
    replace L := L.n in9
    clear be iz in9
    have hlg9 := L.b0.lt
    have hlg9' := L.tl.b0.lt
    replace L := L.varZ w21.heap.size rfl (ng a9) A9 (zl a9) c9
    have cel00 := L.b0.c20
    have cel01 := L.b0.c21
    have cel10 := L.tl.b0.c30
    have cel11 := L.tl.b0.c31
    have cel12 := L.tl.b0.c32
    go_wp2_with fail
    obtain ⟨g9, hg⟩ : ∃ g, w21.heap.size = g := ⟨_, rfl⟩
    rw [hg] at L hlg9 hlg9' cel00 cel01 ⊢
    clear hg
    clear cel00 cel01 cel10 cel11 cel12
    refine (H4.out _ _ (L.getZ (v := .agg #[.bool false, .slice B8 (len D1) k8]) (by simp))).mono ?_
    rintro e w22 ⟨vv, rfl, iz, be⟩
    replace L := (L.step be).z iz
    obtain ⟨B9, k9, rfl, in9⟩ := iz.form
    replace L := L.n in9
    clear be iz in9
    have R := L.pick [(w.heap.size + 1, 121, #[.bool false, .slice none 0 0, .slice none 0 0])] (by simp)
    have hlr := R.b0.lt
    have hlr2 := L.b0.lt
    have r0 := R.b0.c30
    have s0 := R.b0.fr 0
    have r1 := R.b0.c31
    have s1 := R.b0.fr 1
    have r2 := R.b0.c32
    have s2 := R.b0.fr 2
    have LN := L.varZ w22.heap.size rfl (ng (d9 : Int)) B9 (zl (d9 : Int)) k9
    have x0 := LN.b0.c20
    have x1 := LN.b0.c21
    have x2 := LN.tl.b0.c20
    have x3 := LN.tl.b0.c21
    go_wp2_with fail
    have LP0 := R.putQ (by omega) (by first | (simp; done) | (simp; omega)) (ng a9) A9 B9 (zl a9) c9 (zl (d9 : Int)) k9
    have LP := LP0.varZ _ rfl (ng (d9 : Int)) B9 (zl (d9 : Int)) k9
    have k0 := LP.tl.b0.c30
    have k1 := LP.tl.b0.c31
    have k2 := LP.tl.b0.c32
    unfold put3 at k0 k1 k2
    exact bodyPost_ret (v := .agg #[.bool (ng a9), .slice A9 (zl a9) c9, .slice B9 (zl (d9 : Int)) k9]) (by simp [results, Tryz.results112, go_sem, k0, k1, k2]) rfl ⟨_, rfl, ⟨_, _, rfl, LP.getN (by simp), (show IsN _ _ (d9 : Int).natAbs from LP.getN (by simp))⟩, LP.below⟩
/-- The power that the program takes. -/
theorem dpow_pair {m e j : Int} (hb : PB m e j) (h0 : j < 0 → m ≠ 0) : ∃ (a : Int) (d : Nat), 0 < d ∧ zl a ≤ 800 ∧ len d ≤ 800 ∧ Rat.divInt a (d : Int) = pw (dq m e) j ∧ ∀ v W, IsD W v m e → Calls Tryz.prog 112 #[v, .int .i64 j] W (RetP W a d) := by
  obtain ⟨_, _, z3, z4⟩ := dpow_len hb
  obtain ⟨v1, v2⟩ := dpow_val (m := m) (e := e) h0
  exact ⟨_, _, v1, z3, z4, v2, fun v W h => dpower_any m e j v W h hb h0⟩


/-- What the loop of between knows: nothing at its start; then the enclosure of what lies between the least and the greatest value so far. -/
def LoopB (l : List (Int × Int)) (q : Int × Int → Rat) (k : Int) (t : Nat) (M E N G : Int) : Prop := (zl M ≤ 400 ∧ (-10000 ≤ E ∧ E ≤ 10000)) ∧ (zl N ≤ 400 ∧ (-10000 ≤ G ∧ G ≤ 10000)) ∧ Dv M E ∧ Dv N G ∧ (t = 0 ∨ ∃ lo hi, M = enM lo k ∧ E = enE lo k ∧ N = upM hi k ∧ G = upE hi k ∧ (∃ p ∈ l, q p = lo) ∧ (∃ p ∈ l, q p = hi) ∧ ∀ (j : Nat) (p : Int × Int), j < t → l[j]? = some p → lo ≤ q p ∧ q p ≤ hi ∧ enB (q p) (q p) k = true)
theorem LoopB.zero (l : List (Int × Int)) (q : Int × Int → Rat) (k : Int) : LoopB l q k 0 0 0 0 0 := ⟨⟨by rw [zl_zero]; omega, by omega⟩, ⟨by rw [zl_zero]; omega, by omega⟩, Or.inl ⟨rfl, rfl⟩, Or.inl ⟨rfl, rfl⟩, Or.inl rfl⟩
theorem LoopB.one {l : List (Int × Int)} {q : Int × Int → Rat} {k : Int} {p : Int × Int} (hp : l[0]? = some p) (h1 : enF (q p) k) (h2 : upF (q p) k) (h : enB (q p) (q p) k = true) : LoopB l q k 1 (enM (q p) k) (enE (q p) k) (upM (q p) k) (upE (q p) k) := by
  obtain ⟨b1, b2, _⟩ := small_ends h (en_dv h1) (up_dv h2)
  have hm := List.mem_of_getElem? hp
  refine ⟨b1, b2, en_dv h1, up_dv h2, Or.inr ⟨q p, q p, rfl, rfl, rfl, rfl, ⟨p, hm, rfl⟩, ⟨p, hm, rfl⟩, fun j p' hj hp' => ?_⟩⟩
  obtain rfl : j = 0 := by omega
  rw [hp] at hp'
  obtain rfl := Option.some.inj hp'
  exact ⟨Rat.le_refl, Rat.le_refl, h⟩
theorem LoopB.step {l : List (Int × Int)} {q : Int × Int → Rat} {k : Int} {t : Nat} {M E N G : Int} (h : LoopB l q k t M E N G) (ht : t ≠ 0) (hF : ∀ p ∈ l, enF (q p) k ∧ upF (q p) k) {p : Int × Int} (hp : l[t]? = some p) (hs : enB (q p) (q p) k = true) : LoopB l q k (t + 1) (lstD M E (enM (q p) k) (enE (q p) k)).1 (lstD M E (enM (q p) k) (enE (q p) k)).2 (gstD N G (upM (q p) k) (upE (q p) k)).1 (gstD N G (upM (q p) k) (upE (q p) k)).2 := by
  have hm := List.mem_of_getElem? hp
  obtain ⟨h1, h2⟩ := hF p hm
  obtain ⟨c1, c2, _⟩ := small_ends hs (en_dv h1) (up_dv h2)
  obtain ⟨⟨b1, b2⟩, ⟨b3, b4⟩, d1, d2, h3⟩ := h
  rcases h3 with h3 | ⟨lo, hi, rfl, rfl, rfl, rfl, ⟨p1, m1, e1⟩, ⟨p2, m2, e2⟩, hall⟩
  · exact absurd h3 ht
  refine ⟨⟨lstD_zl b1 c1.1, lstD_in b2 c1.2⟩, ⟨gstD_zl b3 c2.1, gstD_in b4 c2.2⟩, lstD_dv d1 (en_dv h1), gstD_dv d2 (up_dv h2), Or.inr ⟨rmin lo (q p), rmax hi (q p), ?_, ?_, ?_, ?_, ?_, ?_, fun j p' hj hp' => ?_⟩⟩
  · rw [lst_en (by rw [← e1]; exact (hF p1 m1).1) h1]
  · rw [lst_en (by rw [← e1]; exact (hF p1 m1).1) h1]
  · rw [gst_up (by rw [← e2]; exact (hF p2 m2).2) h2]
  · rw [gst_up (by rw [← e2]; exact (hF p2 m2).2) h2]
  · rcases rmin_or lo (q p) with h | h
    · exact ⟨p1, m1, by rw [h, e1]⟩
    · exact ⟨p, hm, h.symm⟩
  · rcases rmax_or hi (q p) with h | h
    · exact ⟨p2, m2, by rw [h, e2]⟩
    · exact ⟨p, hm, h.symm⟩
  · rcases Nat.lt_or_ge j t with hjt | hjt
    · obtain ⟨x1, x2, x3⟩ := hall j p' hjt hp'
      exact ⟨Rat.le_trans (rmin_l _ _) x1, Rat.le_trans x2 (rmax_l _ _), x3⟩
    · obtain rfl : j = t := by omega
      rw [hp] at hp'
      obtain rfl := Option.some.inj hp'
      exact ⟨rmin_r _ _, rmax_r _ _, hs⟩
def Least (l : List (Int × Int)) (q : Int × Int → Rat) (lo : Rat) : Prop := (∃ p ∈ l, q p = lo) ∧ ∀ p ∈ l, lo ≤ q p
def Most (l : List (Int × Int)) (q : Int × Int → Rat) (hi : Rat) : Prop := (∃ p ∈ l, q p = hi) ∧ ∀ p ∈ l, q p ≤ hi
/-- All values are enclosed: the result. -/
theorem LoopB.end {l : List (Int × Int)} {q : Int × Int → Rat} {k : Int} {M E N G : Int} (hk : workB k = true) (hF : ∀ p ∈ l, enF (q p) k ∧ upF (q p) k) (h : LoopB l q k l.length M E N G) (h0 : 0 < l.length) {lo hi : Rat} (hlo : Least l q lo) (hhi : Most l q hi) (W : World) : RetEn W lo hi k = RetIE W M E N G 0 := by
  obtain ⟨_, _, _, _, h3⟩ := h
  rcases h3 with h3 | ⟨lo1, hi1, rfl, rfl, rfl, rfl, ⟨p1, m1, e1⟩, ⟨p2, m2, e2⟩, hall⟩
  · omega
  have hA : ∀ p ∈ l, lo1 ≤ q p ∧ q p ≤ hi1 ∧ enB (q p) (q p) k = true := fun p hp => by
    obtain ⟨j, hj, r⟩ := List.getElem_of_mem hp
    exact hall j p hj (by rw [← r]; exact List.getElem?_eq_getElem hj)
  obtain ⟨⟨p3, m3, e3⟩, x3⟩ := hlo
  obtain ⟨⟨p4, m4, e4⟩, x4⟩ := hhi
  have k1 : lo1 = lo := Rat.le_antisymm (by rw [← e3]; exact (hA p3 m3).1) (by rw [← e1]; exact x3 p1 m1)
  have k2 : hi1 = hi := Rat.le_antisymm (by rw [← e2]; exact x4 p2 m2) (by rw [← e4]; exact (hA p4 m4).2.1)
  subst k1 k2
  have f1 := hF p3 m3
  have f2 := hF p4 m4
  have b1 := (hA p3 m3).2.2
  have b2 := (hA p4 m4).2.2
  rw [e3] at f1 b1
  rw [e4] at f2 b2
  have hle : lo1 ≤ hi1 := by
    have := (hA p3 m3)
    exact Rat.le_trans this.1 this.2.1
  unfold RetEn
  rw [if_pos hk, if_pos ⟨f1.1, f2.2, enB_two hk f1.1 f2.2 f1.2 f2.1 hle b1 b2⟩]
/-- A value has no small enclosure: neither have all. -/
theorem en_none {l : List (Int × Int)} {q : Int × Int → Rat} {k : Int} (hk : workB k = true) (hF : ∀ p ∈ l, enF (q p) k ∧ upF (q p) k) {lo hi : Rat} (hlo : Least l q lo) (hhi : Most l q hi) {p : Int × Int} (hp : p ∈ l) (hs : enB (q p) (q p) k ≠ true) (W : World) : RetEn W lo hi k = RetIE W 0 0 0 0 3 := by
  obtain ⟨⟨p3, m3, e3⟩, x3⟩ := hlo
  obtain ⟨⟨p4, m4, e4⟩, x4⟩ := hhi
  have f1 := hF p3 m3
  have f2 := hF p4 m4
  rw [e3] at f1
  rw [e4] at f2
  obtain ⟨f3, f4⟩ := hF p hp
  unfold RetEn
  rw [if_pos hk, if_neg (fun h => hs (enB_one hk f1.1 f2.2 f3 f4 (x3 p hp) (x4 p hp) h.2.2))]
theorem en_yes {q : Rat} {k : Int} (hk : workB k = true) (h : enF q k ∧ upF q k) (hs : enB q q k = true) (W : World) : RetEn W q q k = RetIE W (enM q k) (enE q k) (upM q k) (upE q k) 0 := by
  unfold RetEn
  rw [if_pos hk, if_pos ⟨h.1, h.2, hs⟩]
theorem en_no {q : Rat} {k : Int} (hk : workB k = true) (hs : enB q q k ≠ true) (W : World) : RetEn W q q k = RetIE W 0 0 0 0 3 := by
  unfold RetEn
  rw [if_pos hk, if_neg (fun h => hs h.2.2)]
theorem ng_zero9 : ng 0 = false := rfl

set_option maxHeartbeats 32000000 in
theorem dbetween_any (l : List (Int × Int)) (q : Int × Int → Rat) (lo hi : Rat) (j k : Int) (vl : Value) (w : World) (hl : RowD w vl l) (h0 : 0 < l.length) (hsz : l.length ≤ 1000) (hop : ∀ p ∈ l, ∃ (a : Int) (d : Nat), 0 < d ∧ zl a ≤ 800 ∧ len d ≤ 800 ∧ Rat.divInt a (d : Int) = q p ∧ ∀ v W, IsD W v p.1 p.2 → Calls Tryz.prog 112 #[v, .int .i64 j] W (RetP W a d)) (hlo : Least l q lo) (hhi : Most l q hi) (hw : workB k = true) (hT : Tab w) :
    Calls Tryz.prog 60 #[.int .i64 j, .int .i64 k, vl] w (RetEn w lo hi k) := by
  obtain ⟨g, c, rfl, hg, hrow⟩ := hl
  obtain ⟨_, hk0, hk1⟩ := work_perm hw
  have hF : ∀ p ∈ l, enF (q p) k ∧ upF (q p) k := fun p hp => by
    obtain ⟨a, d, x1, x2, x3, x4, _⟩ := hop p hp
    have y1 := zl_cut a d x1 k
    have y2 := zl_cut (-a) d x1 k
    have y3 := zl_neg a
    rw [← Rat.neg_divInt] at y2
    rw [x4] at y1 y2
    have y4 := zl_neg (cutQ (-(q p)) k)
    exact ⟨mk_fits2 (by omega) (by omega) (by omega), mk_fits2 (by omega) (by omega) (by omega)⟩
  obtain ⟨n, hn⟩ : ∃ n, l.length = n := ⟨_, rfl⟩
  have HEND := Lib.hid (fun (M E N G : Int) (h : LoopB l q k n M E N G) (W : World) => (show RetEn W lo hi k = RetIE W M E N G 0 from by rw [← hn] at h; exact h.end hw hF h0 hlo hhi W))
  have HNONE := Lib.hid (fun (p : Int × Int) (hp : p ∈ l) (hs : enB (q p) (q p) k ≠ true) (W : World) => en_none hw hF hlo hhi hp hs W)
  have HT := Lib.hid (fun W (hW : Below w.heap.size w W) => hT.mono hW)
  rw [hn] at h0 hsz ⊢
  have HN := Lib.hid hn
  have HROW0 := Lib.hid hrow
  have HOP := Lib.hid hop
  have HF := Lib.hid hF
  have HWK := Lib.hid hw
  clear hn hrow hop hF hlo hhi hw hT
  go_enter Tryz.func60, Tryz.ntmps60
  have L := (((Lq.mk0 w).varI (w.heap.size) (by simp) false none 0 0 0 false none 0 0 0).varI (w.heap.size + 1) (by simp) false none 0 0 0 false none 0 0 0)
  go_wp2_with fail
  obtain ⟨V, hV, L9⟩ := L.name
  rw [hV]
  clear hV L
  have L := L9
  clear L9
  have hwV1 := L.tl.b0.lt
  have hwV := L.b0.lt
  obtain ⟨g8, hg8⟩ : ∃ z, w.heap.size + 1 = z := ⟨_, rfl⟩
  rw [hg8] at L hwV ⊢
  have hgg : w.heap.size < g8 := by omega
  clear hg8
  have n4 : w.heap.size ≠ g8 := by omega
  have HROW := Lib.hid (fun Z (hbz : Below w.heap.size w Z) (j : Nat) (p : Int × Int) (hp : l[j]? = some p) => (show ∃ A c, Z.cell? ⟨g, 3 * j, none⟩ = some (.bool (ng p.1)) ∧ Z.cell? ⟨g, 3 * j + 1, none⟩ = some (.slice A (zl p.1) c) ∧ Z.cell? ⟨g, 3 * j + 2, none⟩ = some (.int .i64 p.2) ∧ IsN Z (.slice A (zl p.1) c) p.1.natAbs from by
    obtain ⟨A, c, x1, x2, x3, x4⟩ := HROW0.out j p hp
    exact ⟨A, c, (hbz.cell (p := ⟨g, 3 * j, none⟩) hg).trans x1, (hbz.cell (p := ⟨g, 3 * j + 1, none⟩) hg).trans x2, (hbz.cell (p := ⟨g, 3 * j + 2, none⟩) hg).trans x3, x4.mono hbz⟩))
  have LS : Lq w V [(.slice none (zl 0) 0, (0 : Int).natAbs), (.slice none (zl 0) 0, (0 : Int).natAbs)] [] [] [(g8, 31, #[.bool (ng 0), .slice none (zl 0) 0, .int .i64 0, .bool (ng 0), .slice none (zl 0) 0, .int .i64 0]), (w.heap.size, 31, #[.bool false, .slice none 0 0, .int .i64 0, .bool false, .slice none 0 0, .int .i64 0])] := by
    have h0 : IsN V (.slice none (zl 0) 0) (0 : Int).natAbs := by rw [zl_zero]; exact IsN.zero V
    have hb := L.b0
    have hb2 := L.tl.b0
    rw [zl_zero, ng_zero9]
    rw [zl_zero] at h0
    exact (((((Lq.mk0 w).step L.below).n h0).n h0).b hb2).b hb
  have LB := Lib.hid (LoopB.zero l q k)
  clear L HROW0
  go_loopw [15] (fun i wr => ∃ (t : Nat) (M E N G : Int) (A B : Option Addr) (c d : Nat), i = .int .i64 (t : Int) ∧ t ≤ n ∧ Lq w wr [(.slice A (zl M) c, M.natAbs), (.slice B (zl N) d, N.natAbs)] [] [] [(g8, 31, #[.bool (ng M), .slice A (zl M) c, .int .i64 E, .bool (ng N), .slice B (zl N) d, .int .i64 G]), (w.heap.size, 31, #[.bool false, .slice none 0 0, .int .i64 0, .bool false, .slice none 0 0, .int .i64 0])] ∧ Hid (LoopB l q k t M E N G)) (fun i _ => n - (intOf i).toNat)
  case atStart => exact ⟨0, 0, 0, 0, 0, none, none, 0, 0, rfl, by omega, LS, LB⟩
  case round =>
    clear LS LB
    obtain ⟨t, M, E, N, G, A, B, c, d, rfl, ht, L, HL⟩ := hrel
    rcases Nat.eq_or_lt_of_le ht with rfl | ht3
    · replace L := L.pick [(w.heap.size, 31, #[.bool false, .slice none 0 0, .int .i64 0, .bool false, .slice none 0 0, .int .i64 0]), (g8, 31, #[.bool (ng M), .slice A (zl M) c, .int .i64 E, .bool (ng N), .slice B (zl N) d, .int .i64 G])] (by simp)
      have HRT := Lib.hid (HEND.out _ _ _ _ HL.out w)
      clear HROW HOP HF HL HNONE HEND
      have c00 := L.b0.c60
      have f00 := L.b0.fr 0
      have c01 := L.b0.c61
      have f01 := L.b0.fr 1
      have c02 := L.b0.c62
      have f02 := L.b0.fr 2
      have c03 := L.b0.c63
      have f03 := L.b0.fr 3
      have c04 := L.b0.c64
      have f04 := L.b0.fr 4
      have c05 := L.b0.c65
      have f05 := L.b0.fr 5
      have c10 := L.tl.b0.c60
      have c11 := L.tl.b0.c61
      have c12 := L.tl.b0.c62
      have c13 := L.tl.b0.c63
      have c14 := L.tl.b0.c64
      have c15 := L.tl.b0.c65
      go_wp2_with fail
      have LP := L.putI (by omega) (by first | (simp; done) | (simp; omega)) (ng M) A (zl M) c E (ng N) B (zl N) d G
      have k0 := LP.b0.c60
      have k1 := LP.b0.c61
      have k2 := LP.b0.c62
      have k3 := LP.b0.c63
      have k4 := LP.b0.c64
      have k5 := LP.b0.c65
      unfold put6 at k0 k1 k2 k3 k4 k5
      exact bodyPost_ret (v := .tuple #[.agg #[.bool (ng M), .slice A (zl M) c, .int .i64 E, .bool (ng N), .slice B (zl N) d, .int .i64 G], .int .i64 0]) (by simp [results, Tryz.results60, go_sem, k0, k1, k2, k3, k4, k5]) rfl (by rw [HRT.out]; exact ⟨_, rfl, isI_n (LP.getN (by simp)) (LP.getN (by simp)), LP.below⟩)
    · obtain ⟨⟨m2, e2⟩, hp⟩ : ∃ p, l[t]? = some p := ⟨_, List.getElem?_eq_getElem (by rw [HN.out]; exact ht3)⟩
      have hmem := List.mem_of_getElem? hp
      obtain ⟨A2, c2, y0, y1, y2, y3⟩ := HROW.out _ L.below t _ hp
      obtain ⟨a, dd, x1, x2, x3, x4, x5⟩ := HOP.out _ hmem
      dsimp only at y0 y1 y2 y3 x5
      rw [Nat.mul_comm 3 t] at y0 y1 y2
      have hbw : Below w.heap.size w wr := L.below
      have g2 := fun v W h (hW : Below wr.heap.size wr W) => aconst_any a dd k v W h x2 x3 x1 (by omega) (by omega) (HT.out W (hbw.trans (hW.mono hbw.size)))
      rw [x4] at g2
      have hF1 := HF.out _ hmem
      have H1 := Lib.hid x5
      have HP := Lib.hid hp
      have hlt : (t : Int) < (n : Int) := by omega
      have htz : (0 : Int) ≤ (t : Int) := by omega
      have hl8 := L.b0.lt
      clear x1 x2 x3 x4 x5
      replace L := (L.n y3).varD wr.heap.size rfl (ng m2) A2 (zl m2) c2 e2
      clear y3
      have cel00 := L.b0.c30
      have cel01 := L.b0.c31
      have cel02 := L.b0.c32
      go_wp2_with fail
      clear y0 y1 y2
      obtain ⟨g10, hg10⟩ : ∃ z, wr.heap.size = z := ⟨_, rfl⟩
      rw [hg10] at L hl8 cel00 cel01 cel02 ⊢
      refine (H1.out _ _ (isD_n (m := m2) (e := e2) (s := .slice A2 (zl m2) c2) (L.getN (by simp)))).mono ?_
      rintro e w1 ⟨vq, rfl, iq, be⟩
      clear cel00 cel01 cel02
      have hbx1 : Below wr.heap.size wr w1 := ((Below.refl wr.heap.size wr).alloc (Nat.le_refl _) _).trans (be.mono (by simp))
      obtain ⟨A7, c7, B7, k7, rfl, _, _, _⟩ := iq.form
      replace L := (L.step be).q iq
      clear be iq
      (try go_wp2_with fail)
      by_cases hs : enB (q (m2, e2)) (q (m2, e2)) k = true
      · simp only [en_yes HWK.out hF1 hs] at g2
        obtain ⟨b1, b2, _⟩ := small_ends hs (en_dv hF1.1) (up_dv hF1.2)
        have v1 := en_dv hF1.1
        have v2 := up_dv hF1.2
        have HL1 := Lib.hid (fun (ht0 : t = 0) => (by subst ht0; exact LoopB.one hp hF1.1 hF1.2 hs : LoopB l q k (t + 1) (enM (q (m2, e2)) k) (enE (q (m2, e2)) k) (upM (q (m2, e2)) k) (upE (q (m2, e2)) k)))
        have HL2 := Lib.hid (fun (ht0 : t ≠ 0) => HL.out.step ht0 HF.out hp hs)
        obtain ⟨M3, hM3⟩ : ∃ z, enM (q (m2, e2)) k = z := ⟨_, rfl⟩
        obtain ⟨E3, hE3⟩ : ∃ z, enE (q (m2, e2)) k = z := ⟨_, rfl⟩
        obtain ⟨N3, hN3⟩ : ∃ z, upM (q (m2, e2)) k = z := ⟨_, rfl⟩
        obtain ⟨G3, hG3⟩ : ∃ z, upE (q (m2, e2)) k = z := ⟨_, rfl⟩
        rw [hM3, hE3, hN3, hG3] at g2 HL1 HL2
        rw [hM3] at b1 v1
        rw [hE3] at b1 v1
        rw [hN3] at b2 v2
        rw [hG3] at b2 v2
        have H2 := Lib.hid g2
        obtain ⟨⟨u1, u2⟩, ⟨u3, u4⟩, u5, u6, _⟩ := HL.out
        have g3 := fun v u W h1 h2 => i10hull_any M E N G M3 E3 N3 G3 v u W h1 h2 (by omega) (by omega) (by omega) (by omega) (by omega) (by omega) (by omega) (by omega) u5 u6 v1 v2
        clear g2 hs hp hmem hF1 hM3 hE3 hN3 hG3 b1 b2 v1 v2 u1 u2 u3 u4 u5 u6 HL
        refine (H2.out _ _ (L.getQ (v := .agg #[.bool (ng a), .slice A7 (zl a) c7, .slice B7 (len dd) k7]) (a := a) (d := dd) (by simp)) hbx1).mono ?_
        rintro e9 w2 ⟨vv, rfl, ii, be⟩
        obtain ⟨A3, c3, B3, d3, rfl, ia, ib⟩ := ii.form
        replace L := ((L.step be).n ib).n ia
        clear be ii ia ib hbx1
        have hl11 := L.b0.lt
        have hl11' := L.tl.b0.lt
        have L2 := L
        replace L := L.varI w2.heap.size rfl (ng M3) A3 (zl M3) c3 E3 (ng N3) B3 (zl N3) d3 G3
        have n3 : g8 ≠ w2.heap.size := by omega
        by_cases ht0 : t = 0
        · have b0 : ((t : Int) == 0) = true := by simpa using ht0
          have HL3 := Lib.hid (HL1.out ht0)
          clear HL1 HL2 ht0 g3
          replace L := L.pick [(g8, 31, #[.bool (ng M), .slice A (zl M) c, .int .i64 E, .bool (ng N), .slice B (zl N) d, .int .i64 G]), (w2.heap.size, 31, #[.bool (ng M3), .slice A3 (zl M3) c3, .int .i64 E3, .bool (ng N3), .slice B3 (zl N3) d3, .int .i64 G3]), (w.heap.size, 31, #[.bool false, .slice none 0 0, .int .i64 0, .bool false, .slice none 0 0, .int .i64 0])] (by simp)
          have R := L2.pick [(g8, 31, #[.bool (ng M), .slice A (zl M) c, .int .i64 E, .bool (ng N), .slice B (zl N) d, .int .i64 G]), (w.heap.size, 31, #[.bool false, .slice none 0 0, .int .i64 0, .bool false, .slice none 0 0, .int .i64 0])] (by simp)
          have r0 := R.b0.c60
          have s0 := R.b0.fr 0
          have x0 := L.tl.b0.c60
          have r1 := R.b0.c61
          have s1 := R.b0.fr 1
          have x1 := L.tl.b0.c61
          have r2 := R.b0.c62
          have s2 := R.b0.fr 2
          have x2 := L.tl.b0.c62
          have r3 := R.b0.c63
          have s3 := R.b0.fr 3
          have x3 := L.tl.b0.c63
          have r4 := R.b0.c64
          have s4 := R.b0.fr 4
          have x4 := L.tl.b0.c64
          have r5 := R.b0.c65
          have s5 := R.b0.fr 5
          have x5 := L.tl.b0.c65
          have P0 := R.putI (by omega) (by simp [n3, Ne.symm n3, n4, Ne.symm n4]) (ng M3) A3 (zl M3) c3 E3 (ng N3) B3 (zl N3) d3 G3
          have P1 := P0.varI _ rfl (ng M3) A3 (zl M3) c3 E3 (ng N3) B3 (zl N3) d3 G3
          have P := P1.tl
          unfold put6 at P
          clear P0 P1 L L2 R
          go_wp2_with fail
          go_roundw
          case rel => exact ⟨t + 1, M3, E3, N3, G3, A3, B3, c3, d3, by go_num, by omega, (((((Lq.mk0 w).step P.below).n (P.getN (by simp))).n (P.getN (by simp))).b P.tl.b0).b P.b0, HL3⟩
          case measure => simp [intOf]; omega
        · have b0 : ((t : Int) == 0) = false := by simpa using ht0
          have HL3 := Lib.hid (HL2.out ht0)
          clear HL1 HL2 ht0
          replace L := L.pick [(g8, 31, #[.bool (ng M), .slice A (zl M) c, .int .i64 E, .bool (ng N), .slice B (zl N) d, .int .i64 G]), (w2.heap.size, 31, #[.bool (ng M3), .slice A3 (zl M3) c3, .int .i64 E3, .bool (ng N3), .slice B3 (zl N3) d3, .int .i64 G3]), (w.heap.size, 31, #[.bool false, .slice none 0 0, .int .i64 0, .bool false, .slice none 0 0, .int .i64 0])] (by simp)
          obtain ⟨um, ue, hu⟩ : ∃ x y, lstD M E M3 E3 = (x, y) := ⟨_, _, rfl⟩
          obtain ⟨zm, ze, hz⟩ : ∃ x y, gstD N G N3 G3 = (x, y) := ⟨_, _, rfl⟩
          rw [hu, hz] at g3 HL3
          dsimp only at g3 HL3
          have H3 := Lib.hid g3
          clear g3 hu hz
          have cel00 := L.b0.c60
          have cel01 := L.b0.c61
          have cel02 := L.b0.c62
          have cel03 := L.b0.c63
          have cel04 := L.b0.c64
          have cel05 := L.b0.c65
          have cel10 := L.tl.b0.c60
          have cel11 := L.tl.b0.c61
          have cel12 := L.tl.b0.c62
          have cel13 := L.tl.b0.c63
          have cel14 := L.tl.b0.c64
          have cel15 := L.tl.b0.c65
          go_wp2_with fail
          obtain ⟨g11, hg11⟩ : ∃ z, w2.heap.size = z := ⟨_, rfl⟩
          rw [hg11] at L n3 hl11 hl11' cel10 cel11 cel12 cel13 cel14 cel15 ⊢
          clear hg11
          refine (H3.out _ _ _ (isI_n (m := M) (e := E) (n := N) (f := G) (s := .slice A (zl M) c) (t := .slice B (zl N) d) (L.getN (by simp)) (L.getN (by simp))) (isI_n (m := M3) (e := E3) (n := N3) (f := G3) (s := .slice A3 (zl M3) c3) (t := .slice B3 (zl N3) d3) (L.getN (by simp)) (L.getN (by simp)))).mono ?_
          rintro e w3 ⟨vv, rfl, ii, be⟩
          clear cel00 cel01 cel02 cel03 cel04 cel05 cel10 cel11 cel12 cel13 cel14 cel15
          obtain ⟨A4, c4, B4, d4, rfl, ia, ib⟩ := ii.form
          replace L := ((L.step be).n ib).n ia
          clear be ii ia ib
          have cel00 := L.b0.c60
          have f00 := L.b0.fr 0
          have cel01 := L.b0.c61
          have f01 := L.b0.fr 1
          have cel02 := L.b0.c62
          have f02 := L.b0.fr 2
          have cel03 := L.b0.c63
          have f03 := L.b0.fr 3
          have cel04 := L.b0.c64
          have f04 := L.b0.fr 4
          have cel05 := L.b0.c65
          have f05 := L.b0.fr 5
          have P := L.putI (by omega) (by simp [n3, Ne.symm n3, n4, Ne.symm n4]) (ng um) A4 (zl um) c4 ue (ng zm) B4 (zl zm) d4 ze
          unfold put6 at P
          go_wp2_with fail
          go_roundw
          case rel => exact ⟨t + 1, um, ue, zm, ze, A4, B4, c4, d4, by go_num, by omega, (((((Lq.mk0 w).step P.below).n (P.getN (by simp))).n (P.getN (by simp))).b P.tl.tl.b0).b P.b0, HL3⟩
          case measure => simp [intOf]; omega
      · simp only [en_no HWK.out hs] at g2
        have H2 := Lib.hid g2
        have HRT := Lib.hid (HNONE.out _ hmem hs w)
        clear g2 hs hmem hF1 HL
        refine (H2.out _ _ (L.getQ (v := .agg #[.bool (ng a), .slice A7 (zl a) c7, .slice B7 (len dd) k7]) (a := a) (d := dd) (by simp)) hbx1).mono ?_
        rintro e9 w2 ⟨vv, rfl, ii, be⟩
        obtain ⟨A3, c3, B3, d3, rfl, ia, ib⟩ := ii.form
        replace L := ((L.step be).n ib).n ia
        clear be ii ia ib hbx1
        have hl11 := L.b0.lt
        have hl11' := L.tl.b0.lt
        have L2 := L
        replace L := L.varI w2.heap.size rfl (ng 0) A3 (zl 0) c3 0 (ng 0) B3 (zl 0) d3 0
        have cel00 := L.b0.c60
        have cel01 := L.b0.c61
        have cel02 := L.b0.c62
        have cel03 := L.b0.c63
        have cel04 := L.b0.c64
        have cel05 := L.b0.c65
        have R := L.pick [(w.heap.size, 31, #[.bool false, .slice none 0 0, .int .i64 0, .bool false, .slice none 0 0, .int .i64 0])] (by simp)
        have r0 := R.b0.c60
        have s0 := R.b0.fr 0
        have r1 := R.b0.c61
        have s1 := R.b0.fr 1
        have r2 := R.b0.c62
        have s2 := R.b0.fr 2
        have r3 := R.b0.c63
        have s3 := R.b0.fr 3
        have r4 := R.b0.c64
        have s4 := R.b0.fr 4
        have r5 := R.b0.c65
        have s5 := R.b0.fr 5
        go_wp2_with fail
        replace L := R
        have LP := L.putI (by omega) (by first | (simp; done) | (simp; omega)) false none 0 0 0 false none 0 0 0
        have k0 := LP.b0.c60
        have k1 := LP.b0.c61
        have k2 := LP.b0.c62
        have k3 := LP.b0.c63
        have k4 := LP.b0.c64
        have k5 := LP.b0.c65
        unfold put6 at k0 k1 k2 k3 k4 k5
        exact bodyPost_ret (v := .tuple #[.agg #[.bool false, .slice none 0 0, .int .i64 0, .bool false, .slice none 0 0, .int .i64 0], .int .i64 3]) (by simp [results, Tryz.results60, go_sem, k0, k1, k2, k3, k4, k5]) rfl (by rw [HRT.out]; exact RetIE.z LP.below _)


end Go.Proofs.YtfnklkdbieikeaaGreatDoor
