/- The reference's root, SqrtFloor, SqrtCeil. -/
import Derived.Test.YthfabjpbdgieoaaGreatDoorRdW
import Derived.Test.YthfabjpbdgieoaaGreatDoorRefGrA
import Derived.Test.YthfabjpbdgieoaaGreatDoorBaseS
import Derived.Test.YthfabjpbdgieoaaGreatDoorBaseE
import Derived.Test.YthfabjpbdgieoaaGreatDoorBaseX
import Derived.Test.YthfabjpbdgieoaaGreatDoorBaseJ
import Derived.Deep.RegionHeld3
import Derived.Deep.DrawnRows
import Derived.Deep.Cut
import Derived.Deep.CutRange
namespace Go.Proofs.YthfabjpbdgieoaaGreatDoor
open Go.RowKit
set_option linter.unusedVariables false
set_option linter.unusedSimpArgs false
set_option maxRecDepth 100000
attribute [local go_sem ↓] Go.wp_at_zero Go.wp_at_succ

theorem isD_b {w : World} {s : Value} {m e : Int} {b : Bool} (hb : ng m = b) (h : IsN w s m.natAbs) : IsD w (.agg #[.bool b, s, .int .i64 e]) m e := by
  subst hb; exact isD_n h
def exB12 (m e k : Int) : Bool := decide (dq (sqR (dq m e) k) (-k) * dq (sqR (dq m e) k) (-k) = dq m e)
def RetRt (w : World) (z : Int) (b : Bool) (en : Ending) (w' : World) : Prop := ∃ v, en = .returned (.tuple #[v, .bool b]) ∧ IsZ w' v z ∧ Below w.heap.size w w'

set_option maxHeartbeats 8000000 in
theorem rroot12_any (m e k : Int) (vx : Value) (w : World) (hx : IsD w vx m e) (lm : zl m ≤ 400) (he : -10000 ≤ e ∧ e ≤ 10000) (hv : Dv m e) (hm : 0 ≤ m) (hw : workB k = true) :
    Calls Tryz.prog 56 #[vx, .int .i64 k] w (RetRt w (sqR (dq m e) k) (exB12 m e k)) := by
  obtain ⟨A, c, rfl, _, hn1⟩ := hx.form
  have L0 := (Lq.mk0 w).n hn1
  obtain ⟨s0, s1, s2, _, s4, s5, _⟩ := sq_size lm he hm hw
  obtain ⟨_, k0, k1⟩ := work_perm hw
  have fl := sq_flag hv hm k
  have z1 := zl_two m e.toNat
  have z2 := len_two (-e).toNat
  have d0 := two_pos8 (-e).toNat
  have g1 := fun v W h => rrat8_any m e v W h (by omega) (by omega)
  have g2 := fun v W h => rcut_any (m * 2 ^ e.toNat) (2 ^ (-e).toNat) (2 * k) v W h (by omega) (by omega) d0 (by omega) (by omega)
  rw [show Rat.divInt (m * 2 ^ e.toNat) ((2 ^ (-e).toNat : Nat) : Int) = dq m e from rfl] at g2
  generalize m * 2 ^ e.toNat = a at *
  generalize 2 ^ (-e).toNat = d at *
  have g3 := fun v W h => rsqrt_any (cutQ (dq m e) (2 * k)).natAbs v W h (show len (cutQ (dq m e) (2 * k)).natAbs ≤ 10000 from Nat.le_trans s1 (by omega))
  have g4 := fun v W h => rznn_any (rt 2 (cutQ (dq m e) (2 * k)).natAbs) v W h (show len (rt 2 (cutQ (dq m e) (2 * k)).natAbs) ≤ 1000000 from Nat.le_trans s2 (by omega))
  rw [show (rt 2 (cutQ (dq m e) (2 * k)).natAbs : Int) = sqR (dq m e) k from rfl] at g4
  obtain ⟨o, ho⟩ : ∃ o, exB12 m e k = o := ⟨_, rfl⟩
  rw [ho]
  unfold exB12 at ho
  have fl2 : o = true ↔ ((cutQ (dq m e) (2 * k)).natAbs - rt 2 (cutQ (dq m e) (2 * k)).natAbs * rt 2 (cutQ (dq m e) (2 * k)).natAbs = 0 ∧ (-(2 * k) ≤ e ∨ m = 0)) := by
    rw [← ho, decide_eq_true_iff]
    exact fl.symm
  clear fl ho
  obtain ⟨R, hR⟩ : ∃ z, sqR (dq m e) k = z := ⟨_, rfl⟩
  rw [hR] at g4 ⊢
  obtain ⟨k2, hk2⟩ : ∃ z, 2 * k = z := ⟨_, rfl⟩
  have w1 : IntKind.i64.wrap (2 * k) = k2 := by rw [IntKind.wrap_i64]; omega
  have w2 : IntKind.i64.wrap (-2 * k) = -k2 := by rw [IntKind.wrap_i64]; omega
  rw [hk2] at g2 g3 g4 fl2
  obtain ⟨C, hC⟩ : ∃ z, cutQ (dq m e) k2 = z := ⟨_, rfl⟩
  rw [hC] at g2 g3 g4 fl2
  obtain ⟨rr, hrr⟩ : ∃ z, rt 2 C.natAbs = z := ⟨_, rfl⟩
  obtain ⟨rs, hrs⟩ : ∃ z, C.natAbs - rt 2 C.natAbs * rt 2 C.natAbs = z := ⟨_, rfl⟩
  rw [hrs] at g3 fl2
  rw [hrr] at g3 g4
  have H1 := Lib.hid g1
  have H2 := Lib.hid g2
  have H3 := Lib.hid g3
  have H4 := Lib.hid g4
  have hmz : m = 0 → e = 0 := fun h => dv_zero hv h
  have hzl : zl m = 0 → m = 0 := fun h => by
    have := len_eq_zero (x := m.natAbs) h
    omega
  have hrz : len rs = 0 → rs = 0 := len_eq_zero
  have hz0 : len 0 = 0 := len_zero
  have hkk : 0 ≤ k2 := by omega
  have W2 := Lib.hid w2
  clear g1 g2 g3 g4 hR hk2 hC hrr hrs s0 s1 s2 s4 s5 k0 k1 z1 z2 d0 hx hn1 hw lm he hv w2
  by_cases q1 : rs = 0
  · have b1 : (((len rs : Nat) : Int) == 0) = true := by rw [q1, hz0]; rfl
    by_cases q2 : -k2 ≤ e
    · obtain rfl : o = true := fl2.2 ⟨q1, Or.inl q2⟩
      have b2 : decide (-k2 ≤ e) = true := decide_eq_true q2
      have w2 := W2.out
      clear hmz hzl hrz hz0 fl2 hkk hm q1 q2 W2
      go_enter Tryz.func56, Tryz.ntmps56
      go_wp2_with fail
      have L := ((L0.varD (w.heap.size) (by simp) (ng m) A (zl m) c e).varZ (w.heap.size + 1) (by simp) false none 0 0)
      have c00 := L.b0.c20
      have c01 := L.b0.c21
      have c10 := L.tl.b0.c30
      have c11 := L.tl.b0.c31
      have c12 := L.tl.b0.c32
      (try go_wp2_with fail)
      refine (H1.out _ _ (isD_n (m := m) (e := e) (s := .slice A (zl m) c) (L.getN (v := .slice A (zl m) c) (x := (m).natAbs) (by simp)))).mono ?_
      rintro e w1 ⟨vq, rfl, iq, be⟩
      clear c00 c01 c10 c11 c12
      replace L := (L.step be).q iq
      clear be iq
      (try go_wp2_with fail)
      refine (H2.out _ _ (L.getQ (by simp))).mono ?_
      rintro e w2 ⟨vv, rfl, iz, be⟩
      replace L := (L.step be).z iz
      obtain ⟨A7, c7, rfl, in9⟩ := iz.form
      replace L := L.n in9
      clear be iz in9
      have hlg7 := L.b0.lt
      replace L := L.varZ w2.heap.size rfl (ng C) A7 (zl C) c7
      have cel00 := L.b0.c20
      have cel01 := L.b0.c21
      go_wp2_with fail
      obtain ⟨g7, hg⟩ : ∃ g, w2.heap.size = g := ⟨_, rfl⟩
      rw [hg] at L hlg7 cel00 cel01 ⊢
      clear hg
      clear cel00 cel01
      refine (H3.out _ _ (L.getN (v := .slice A7 (zl C) c7) (x := C.natAbs) (by simp))).mono ?_
      rintro e w3 ⟨vq, vr, rfl, oq, or_, be⟩
      obtain ⟨A5, c5, e5⟩ := (isN_of_own or_ rfl).form
      replace e5 : vr = .slice A5 (len rs) c5 := e5
      subst e5
      replace L := (L.step be).n (isN_of_own oq rfl)
      clear be oq or_
      have cel20 := L.tl.tl.b0.c30
      have cel21 := L.tl.tl.b0.c31
      have cel22 := L.tl.tl.b0.c32
      (try go_wp2_with fail)
      refine (H4.out _ _ (L.getN (v := vq) (x := rr) (by simp))).mono ?_
      rintro e w4 ⟨vz, rfl, iz, be⟩
      clear cel20 cel21 cel22
      obtain ⟨A9, c9, rfl, in9⟩ := iz.form
      replace L := (L.step be).n in9
      clear be iz in9
      replace L := L.pick [(w.heap.size + 1, 24, #[.bool false, .slice none 0 0])] (by simp)
      have c00 := L.b0.c20
      have f00 := L.b0.fr 0
      have c01 := L.b0.c21
      have f01 := L.b0.fr 1
      go_wp2_with fail
      have LP := L.putZ (by omega) (by first | (simp; done) | (simp; omega)) (ng R) A9 (zl R) c9
      have k0 := LP.b0.c20
      have k1 := LP.b0.c21
      unfold put2 at k0 k1
      exact bodyPost_ret (v := .tuple #[.agg #[.bool (ng R), .slice A9 (zl R) c9], .bool true]) (by simp [results, Tryz.results56, go_sem, k0, k1]) rfl ⟨_, rfl, isZ_n (LP.getN (by simp)), LP.below⟩
    · obtain rfl : o = false := by cases o; rfl; exact absurd (fl2.1 rfl).2 (fun h => h.elim q2 (fun h2 => q2 (by rw [hmz h2]; omega)))
      have b2 : decide (-k2 ≤ e) = false := decide_eq_false q2
      have b3 : (((zl m : Nat) : Int) == 0) = false := by
        have h9 : zl m ≠ 0 := fun h => q2 (by rw [hmz (hzl h)]; omega)
        simpa using h9
      have w2 := W2.out
      clear hmz hzl hrz hz0 fl2 hkk hm q1 q2 W2
      go_enter Tryz.func56, Tryz.ntmps56
      go_wp2_with fail
      have L := ((L0.varD (w.heap.size) (by simp) (ng m) A (zl m) c e).varZ (w.heap.size + 1) (by simp) false none 0 0)
      have c00 := L.b0.c20
      have c01 := L.b0.c21
      have c10 := L.tl.b0.c30
      have c11 := L.tl.b0.c31
      have c12 := L.tl.b0.c32
      (try go_wp2_with fail)
      refine (H1.out _ _ (isD_n (m := m) (e := e) (s := .slice A (zl m) c) (L.getN (v := .slice A (zl m) c) (x := (m).natAbs) (by simp)))).mono ?_
      rintro e w1 ⟨vq, rfl, iq, be⟩
      clear c00 c01 c10 c11 c12
      replace L := (L.step be).q iq
      clear be iq
      (try go_wp2_with fail)
      refine (H2.out _ _ (L.getQ (by simp))).mono ?_
      rintro e w2 ⟨vv, rfl, iz, be⟩
      replace L := (L.step be).z iz
      obtain ⟨A7, c7, rfl, in9⟩ := iz.form
      replace L := L.n in9
      clear be iz in9
      have hlg7 := L.b0.lt
      replace L := L.varZ w2.heap.size rfl (ng C) A7 (zl C) c7
      have cel00 := L.b0.c20
      have cel01 := L.b0.c21
      go_wp2_with fail
      obtain ⟨g7, hg⟩ : ∃ g, w2.heap.size = g := ⟨_, rfl⟩
      rw [hg] at L hlg7 cel00 cel01 ⊢
      clear hg
      clear cel00 cel01
      refine (H3.out _ _ (L.getN (v := .slice A7 (zl C) c7) (x := C.natAbs) (by simp))).mono ?_
      rintro e w3 ⟨vq, vr, rfl, oq, or_, be⟩
      obtain ⟨A5, c5, e5⟩ := (isN_of_own or_ rfl).form
      replace e5 : vr = .slice A5 (len rs) c5 := e5
      subst e5
      replace L := (L.step be).n (isN_of_own oq rfl)
      clear be oq or_
      have cel20 := L.tl.tl.b0.c30
      have cel21 := L.tl.tl.b0.c31
      have cel22 := L.tl.tl.b0.c32
      (try go_wp2_with fail)
      refine (H4.out _ _ (L.getN (v := vq) (x := rr) (by simp))).mono ?_
      rintro e w4 ⟨vz, rfl, iz, be⟩
      clear cel20 cel21 cel22
      obtain ⟨A9, c9, rfl, in9⟩ := iz.form
      replace L := (L.step be).n in9
      clear be iz in9
      replace L := L.pick [(w.heap.size + 1, 24, #[.bool false, .slice none 0 0])] (by simp)
      have c00 := L.b0.c20
      have f00 := L.b0.fr 0
      have c01 := L.b0.c21
      have f01 := L.b0.fr 1
      go_wp2_with fail
      have LP := L.putZ (by omega) (by first | (simp; done) | (simp; omega)) (ng R) A9 (zl R) c9
      have k0 := LP.b0.c20
      have k1 := LP.b0.c21
      unfold put2 at k0 k1
      exact bodyPost_ret (v := .tuple #[.agg #[.bool (ng R), .slice A9 (zl R) c9], .bool false]) (by simp [results, Tryz.results56, go_sem, k0, k1]) rfl ⟨_, rfl, isZ_n (LP.getN (by simp)), LP.below⟩
  · obtain rfl : o = false := by cases o; rfl; exact absurd (fl2.1 rfl).1 q1
    have b1 : (((len rs : Nat) : Int) == 0) = false := by
      have h9 : len rs ≠ 0 := fun h => q1 (hrz h)
      simpa using h9
    clear hmz hzl hrz hz0 fl2 hkk hm q1 W2
    go_enter Tryz.func56, Tryz.ntmps56
    go_wp2_with fail
    have L := ((L0.varD (w.heap.size) (by simp) (ng m) A (zl m) c e).varZ (w.heap.size + 1) (by simp) false none 0 0)
    have c00 := L.b0.c20
    have c01 := L.b0.c21
    have c10 := L.tl.b0.c30
    have c11 := L.tl.b0.c31
    have c12 := L.tl.b0.c32
    (try go_wp2_with fail)
    refine (H1.out _ _ (isD_n (m := m) (e := e) (s := .slice A (zl m) c) (L.getN (v := .slice A (zl m) c) (x := (m).natAbs) (by simp)))).mono ?_
    rintro e w1 ⟨vq, rfl, iq, be⟩
    clear c00 c01 c10 c11 c12
    replace L := (L.step be).q iq
    clear be iq
    (try go_wp2_with fail)
    refine (H2.out _ _ (L.getQ (by simp))).mono ?_
    rintro e w2 ⟨vv, rfl, iz, be⟩
    replace L := (L.step be).z iz
    obtain ⟨A7, c7, rfl, in9⟩ := iz.form
    replace L := L.n in9
    clear be iz in9
    have hlg7 := L.b0.lt
    replace L := L.varZ w2.heap.size rfl (ng C) A7 (zl C) c7
    have cel00 := L.b0.c20
    have cel01 := L.b0.c21
    go_wp2_with fail
    obtain ⟨g7, hg⟩ : ∃ g, w2.heap.size = g := ⟨_, rfl⟩
    rw [hg] at L hlg7 cel00 cel01 ⊢
    clear hg
    clear cel00 cel01
    refine (H3.out _ _ (L.getN (v := .slice A7 (zl C) c7) (x := C.natAbs) (by simp))).mono ?_
    rintro e w3 ⟨vq, vr, rfl, oq, or_, be⟩
    obtain ⟨A5, c5, e5⟩ := (isN_of_own or_ rfl).form
    replace e5 : vr = .slice A5 (len rs) c5 := e5
    subst e5
    replace L := (L.step be).n (isN_of_own oq rfl)
    clear be oq or_
    have cel20 := L.tl.tl.b0.c30
    have cel21 := L.tl.tl.b0.c31
    have cel22 := L.tl.tl.b0.c32
    (try go_wp2_with fail)
    refine (H4.out _ _ (L.getN (v := vq) (x := rr) (by simp))).mono ?_
    rintro e w4 ⟨vz, rfl, iz, be⟩
    clear cel20 cel21 cel22
    obtain ⟨A9, c9, rfl, in9⟩ := iz.form
    replace L := (L.step be).n in9
    clear be iz in9
    replace L := L.pick [(w.heap.size + 1, 24, #[.bool false, .slice none 0 0])] (by simp)
    have c00 := L.b0.c20
    have f00 := L.b0.fr 0
    have c01 := L.b0.c21
    have f01 := L.b0.fr 1
    go_wp2_with fail
    have LP := L.putZ (by omega) (by first | (simp; done) | (simp; omega)) (ng R) A9 (zl R) c9
    have k0 := LP.b0.c20
    have k1 := LP.b0.c21
    unfold put2 at k0 k1
    exact bodyPost_ret (v := .tuple #[.agg #[.bool (ng R), .slice A9 (zl R) c9], .bool false]) (by simp [results, Tryz.results56, go_sem, k0, k1]) rfl ⟨_, rfl, isZ_n (LP.getN (by simp)), LP.below⟩
theorem ret_sqU (m e k : Int) : sqU (dq m e) k = if exB12 m e k then sqR (dq m e) k else sqR (dq m e) k + 1 := by
  unfold sqU exB12
  by_cases h : dq (sqR (dq m e) k) (-k) * dq (sqR (dq m e) k) (-k) = dq m e
  · rw [if_pos h, decide_eq_true h, if_pos rfl]
  · rw [if_neg h, decide_eq_false h, if_neg (by decide)]

set_option maxHeartbeats 8000000 in
theorem rsqrtf12_any (m e k : Int) (vx : Value) (w : World) (hx : IsD w vx m e) (lm : zl m ≤ 400) (he : -10000 ≤ e ∧ e ≤ 10000) (hv : Dv m e) (hk1 : -9223372036854775808 ≤ k) (hk2 : k ≤ 9223372036854775807) :
    Calls Tryz.prog 17 #[vx, .int .i64 k] w (RetSf w m e k) := by
  obtain ⟨A, c, rfl, _, hn1⟩ := hx.form
  have L0 := (Lq.mk0 w).n hn1
  have HW0 := fun W => rwork_any k W
  unfold RetSf
  cases hw : workB k
  · rw [if_neg (by decide)]
    rw [hw] at HW0
    have HW := Lib.hid HW0
    clear HW0 hx hn1 hw lm he hv
    go_enter Tryz.func17, Tryz.ntmps17
    go_wp2_with fail
    have L := ((L0.varD (w.heap.size) (by simp) (ng m) A (zl m) c e).varD (w.heap.size + 1) (by simp) false none 0 0 0)
    have c00 := L.b0.c30
    have f00 := L.b0.fr 0
    have c01 := L.b0.c31
    have f01 := L.b0.fr 1
    have c02 := L.b0.c32
    have f02 := L.b0.fr 2
    have c10 := L.tl.b0.c30
    have c11 := L.tl.b0.c31
    have c12 := L.tl.b0.c32
    (try go_wp2_with fail)
    refine (HW.out _).mono ?_
    rintro e9 w' ⟨rfl, rfl⟩
    (try go_wp2_with fail)
    exact bodyPost_ret (v := .tuple #[.agg #[.bool false, .slice none 0 0, .int .i64 0], .int .i64 1]) (by simp [results, Tryz.results17, go_sem, c00, c01, c02]) rfl (RetDE.z L.below _)
  · rw [if_pos rfl]
    rw [hw] at HW0
    have HW := Lib.hid HW0
    clear HW0
    by_cases hm : m < 0
    · rw [if_pos hm]
      rw [ng_yes hm]
      clear hx hn1 hw lm he hv hm
      go_enter Tryz.func17, Tryz.ntmps17
      go_wp2_with fail
      have L := ((L0.varD (w.heap.size) (by simp) true A (zl m) c e).varD (w.heap.size + 1) (by simp) false none 0 0 0)
      have c00 := L.b0.c30
      have f00 := L.b0.fr 0
      have c01 := L.b0.c31
      have f01 := L.b0.fr 1
      have c02 := L.b0.c32
      have f02 := L.b0.fr 2
      have c10 := L.tl.b0.c30
      have c11 := L.tl.b0.c31
      have c12 := L.tl.b0.c32
      (try go_wp2_with fail)
      refine (HW.out _).mono ?_
      rintro e9 w' ⟨rfl, rfl⟩
      (try go_wp2_with fail)
      exact bodyPost_ret (v := .tuple #[.agg #[.bool false, .slice none 0 0, .int .i64 0], .int .i64 4]) (by simp [results, Tryz.results17, go_sem, c00, c01, c02]) rfl (RetDE.z L.below _)
    · rw [if_neg hm]
      have hb9 : ng m = false := ng_no (by omega)
      rw [hb9]
      obtain ⟨s0, s1, s2, s3, _, s5, s6⟩ := sq_size lm he (Int.not_lt.1 hm) hw
      obtain ⟨_, k0, k1⟩ := work_perm hw
      have g1 := fun v W h => rroot12_any m e k v W h lm he hv (Int.not_lt.1 hm) hw
      obtain ⟨j, hj⟩ : ∃ z, -k = z := ⟨_, rfl⟩
      have w3 : IntKind.i64.wrap (-k) = j := by rw [IntKind.wrap_i64]; omega
      have g2 := fun v W h => rmake8_any (sqR (dq m e) k) (-k) v W h (by omega)
      rw [s5] at g2
      rw [hj] at g2 ⊢
      obtain ⟨R, hR⟩ : ∃ z, sqR (dq m e) k = z := ⟨_, rfl⟩
      rw [hR] at g1 g2 ⊢
      obtain ⟨o, ho⟩ : ∃ z, exB12 m e k = z := ⟨_, rfl⟩
      rw [ho] at g1
      obtain ⟨N, hN⟩ : ∃ z, mkM R j = z := ⟨_, rfl⟩
      obtain ⟨G, hG⟩ : ∃ z, mkE R j = z := ⟨_, rfl⟩
      rw [hN, hG] at g2 ⊢
      have H1 := Lib.hid g1
      have H2 := Lib.hid g2
      have HB := Lib.hid hb9
      clear g1 g2 hR ho hN hG hj hb9 hx hn1 hw lm he hv hm s0 s1 s2 s3 s5 s6 k0 k1
      go_enter Tryz.func17, Tryz.ntmps17
      go_wp2_with fail
      have L := ((L0.varD (w.heap.size) (by simp) false A (zl m) c e).varD (w.heap.size + 1) (by simp) false none 0 0 0)
      have c00 := L.b0.c30
      have f00 := L.b0.fr 0
      have c01 := L.b0.c31
      have f01 := L.b0.fr 1
      have c02 := L.b0.c32
      have f02 := L.b0.fr 2
      have c10 := L.tl.b0.c30
      have c11 := L.tl.b0.c31
      have c12 := L.tl.b0.c32
      (try go_wp2_with fail)
      refine (HW.out _).mono ?_
      rintro e9 w' ⟨rfl, rfl⟩
      (try go_wp2_with fail)
      clear c00 f00 c01 f01 c02 f02 c10 c11 c12
      have cel10 := L.tl.b0.c30
      have cel11 := L.tl.b0.c31
      have cel12 := L.tl.b0.c32
      (try go_wp2_with fail)
      clear cel10 cel11 cel12
      refine (H1.out _ _ (isD_b (m := m) (e := e) (s := .slice A (zl m) c) HB.out (L.getN (by simp)))).mono ?_
      rintro e w1 ⟨vv, rfl, iz, be⟩
      replace L := (L.step be).z iz
      obtain ⟨A7, c7, rfl, in9⟩ := iz.form
      replace L := L.n in9
      clear be iz in9
      have hlg7 := L.b0.lt
      replace L := L.varZ w1.heap.size rfl (ng R) A7 (zl R) c7
      have cel00 := L.b0.c20
      have cel01 := L.b0.c21
      go_wp2_with fail
      obtain ⟨g7, hg⟩ : ∃ g, w1.heap.size = g := ⟨_, rfl⟩
      rw [hg] at L hlg7 cel00 cel01 ⊢
      clear hg
      refine (H2.out _ _ (L.getZ (v := .agg #[.bool (ng R), .slice A7 (zl R) c7]) (by simp))).mono ?_
      rintro e w2 ⟨vd, rfl, id, be⟩
      clear cel00 cel01
      obtain ⟨A9, c9, rfl, _, in9⟩ := id.form
      replace L := (L.step be).n in9
      clear be id in9
      replace L := L.pick [(w.heap.size + 1, 26, #[.bool false, .slice none 0 0, .int .i64 0])] (by simp)
      have c00 := L.b0.c30
      have f00 := L.b0.fr 0
      have c01 := L.b0.c31
      have f01 := L.b0.fr 1
      have c02 := L.b0.c32
      have f02 := L.b0.fr 2
      go_wp2_with fail
      have LP := L.putD (by omega) (by first | (simp; done) | (simp; omega)) (ng N) A9 (zl N) c9 (G)
      have k0 := LP.b0.c30
      have k1 := LP.b0.c31
      have k2 := LP.b0.c32
      unfold put3 at k0 k1 k2
      exact bodyPost_ret (v := .tuple #[.agg #[.bool (ng N), .slice A9 (zl N) c9, .int .i64 (G)], .int .i64 0]) (by simp [results, Tryz.results17, go_sem, k0, k1, k2]) rfl ⟨_, rfl, isD_n (LP.getN (by simp)), LP.below⟩
set_option maxHeartbeats 8000000 in
theorem rsqrtc12_any (m e k : Int) (vx : Value) (w : World) (hx : IsD w vx m e) (lm : zl m ≤ 400) (he : -10000 ≤ e ∧ e ≤ 10000) (hv : Dv m e) (hk1 : -9223372036854775808 ≤ k) (hk2 : k ≤ 9223372036854775807) :
    Calls Tryz.prog 18 #[vx, .int .i64 k] w (RetSc w m e k) := by
  obtain ⟨A, c, rfl, _, hn1⟩ := hx.form
  have L0 := (Lq.mk0 w).n hn1
  have HW0 := fun W => rwork_any k W
  unfold RetSc
  cases hw : workB k
  · rw [if_neg (by decide)]
    rw [hw] at HW0
    have HW := Lib.hid HW0
    clear HW0 hx hn1 hw lm he hv
    go_enter Tryz.func18, Tryz.ntmps18
    go_wp2_with fail
    have L := ((L0.varD (w.heap.size) (by simp) (ng m) A (zl m) c e).varD (w.heap.size + 1) (by simp) false none 0 0 0)
    have c00 := L.b0.c30
    have f00 := L.b0.fr 0
    have c01 := L.b0.c31
    have f01 := L.b0.fr 1
    have c02 := L.b0.c32
    have f02 := L.b0.fr 2
    have c10 := L.tl.b0.c30
    have c11 := L.tl.b0.c31
    have c12 := L.tl.b0.c32
    (try go_wp2_with fail)
    refine (HW.out _).mono ?_
    rintro e9 w' ⟨rfl, rfl⟩
    (try go_wp2_with fail)
    exact bodyPost_ret (v := .tuple #[.agg #[.bool false, .slice none 0 0, .int .i64 0], .int .i64 1]) (by simp [results, Tryz.results18, go_sem, c00, c01, c02]) rfl (RetDE.z L.below _)
  · rw [if_pos rfl]
    rw [hw] at HW0
    have HW := Lib.hid HW0
    clear HW0
    by_cases hm : m < 0
    · rw [if_pos hm]
      rw [ng_yes hm]
      clear hx hn1 hw lm he hv hm
      go_enter Tryz.func18, Tryz.ntmps18
      go_wp2_with fail
      have L := ((L0.varD (w.heap.size) (by simp) true A (zl m) c e).varD (w.heap.size + 1) (by simp) false none 0 0 0)
      have c00 := L.b0.c30
      have f00 := L.b0.fr 0
      have c01 := L.b0.c31
      have f01 := L.b0.fr 1
      have c02 := L.b0.c32
      have f02 := L.b0.fr 2
      have c10 := L.tl.b0.c30
      have c11 := L.tl.b0.c31
      have c12 := L.tl.b0.c32
      (try go_wp2_with fail)
      refine (HW.out _).mono ?_
      rintro e9 w' ⟨rfl, rfl⟩
      (try go_wp2_with fail)
      exact bodyPost_ret (v := .tuple #[.agg #[.bool false, .slice none 0 0, .int .i64 0], .int .i64 4]) (by simp [results, Tryz.results18, go_sem, c00, c01, c02]) rfl (RetDE.z L.below _)
    · rw [if_neg hm]
      have hb9 : ng m = false := ng_no (by omega)
      rw [hb9]
      obtain ⟨s0, s1, s2, s3, _, s5, s6⟩ := sq_size lm he (Int.not_lt.1 hm) hw
      obtain ⟨_, k0, k1⟩ := work_perm hw
      have g1 := fun v W h => rroot12_any m e k v W h lm he hv (Int.not_lt.1 hm) hw
      obtain ⟨j, hj⟩ : ∃ z, -k = z := ⟨_, rfl⟩
      have w3 : IntKind.i64.wrap (-k) = j := by rw [IntKind.wrap_i64]; omega
      have hz1 : zl 1 ≤ 1 := len_le1 (by decide)
      have hza := zl_add (sqR (dq m e) k) 1
      have g2 := fun v W h => rmake8_any (sqU (dq m e) k) (-k) v W h (by omega)
      rw [s6] at g2
      have g4 := fun v u W h1 h2 => rzadd_any (sqR (dq m e) k) 1 v u W h1 h2 (by omega) (by omega)
      rw [hj] at g2 ⊢
      have hU := ret_sqU m e k
      obtain ⟨R, hR⟩ : ∃ z, sqR (dq m e) k = z := ⟨_, rfl⟩
      rw [hR] at g1 g4 hU
      obtain ⟨o, ho⟩ : ∃ z, exB12 m e k = z := ⟨_, rfl⟩
      rw [ho] at g1 hU
      rw [hU] at g2 ⊢
      have HO := Lib.hid (fun W => rzof_any 1 W (by omega) (by omega))
      have H1 := Lib.hid g1
      have H4 := Lib.hid g4
      have HB := Lib.hid hb9
      clear g1 g4 hU hR ho hj hb9 hx hn1 hw lm he hv hm s0 s1 s2 s3 s5 s6 k0 k1 hz1 hza
      cases o
      · rw [if_neg (by decide)] at g2 ⊢
        obtain ⟨U, hU⟩ : ∃ z, R + 1 = z := ⟨_, rfl⟩
        rw [hU] at g2 ⊢
        obtain ⟨N, hN⟩ : ∃ z, mkM U (j) = z := ⟨_, rfl⟩
        obtain ⟨G, hG⟩ : ∃ z, mkE U (j) = z := ⟨_, rfl⟩
        rw [hN, hG] at g2 ⊢
        have H2 := Lib.hid g2
        clear g2 hN hG
        rw [hU] at H4
        clear hU
        go_enter Tryz.func18, Tryz.ntmps18
        go_wp2_with fail
        have L := ((L0.varD (w.heap.size) (by simp) false A (zl m) c e).varD (w.heap.size + 1) (by simp) false none 0 0 0)
        have c00 := L.b0.c30
        have f00 := L.b0.fr 0
        have c01 := L.b0.c31
        have f01 := L.b0.fr 1
        have c02 := L.b0.c32
        have f02 := L.b0.fr 2
        have c10 := L.tl.b0.c30
        have c11 := L.tl.b0.c31
        have c12 := L.tl.b0.c32
        (try go_wp2_with fail)
        refine (HW.out _).mono ?_
        rintro e9 w' ⟨rfl, rfl⟩
        (try go_wp2_with fail)
        clear c00 f00 c01 f01 c02 f02 c10 c11 c12
        have cel10 := L.tl.b0.c30
        have cel11 := L.tl.b0.c31
        have cel12 := L.tl.b0.c32
        (try go_wp2_with fail)
        clear cel10 cel11 cel12
        refine (H1.out _ _ (isD_b (m := m) (e := e) (s := .slice A (zl m) c) HB.out (L.getN (by simp)))).mono ?_
        rintro e w1 ⟨vv, rfl, iz, be⟩
        replace L := (L.step be).z iz
        obtain ⟨A7, c7, rfl, in9⟩ := iz.form
        replace L := L.n in9
        clear be iz in9
        have hlg7 := L.b0.lt
        replace L := L.varZ w1.heap.size rfl (ng R) A7 (zl R) c7
        have cel00 := L.b0.c20
        have cel01 := L.b0.c21
        go_wp2_with fail
        obtain ⟨g7, hg⟩ : ∃ g, w1.heap.size = g := ⟨_, rfl⟩
        rw [hg] at L hlg7 cel00 cel01 ⊢
        clear hg
        clear cel00 cel01
        replace L := L.drew
        have LD := L.pick [(g7, 24, #[.bool (ng R), .slice A7 (zl R) c7]), (w.heap.size + 1, 26, #[.bool false, .slice none 0 0, .int .i64 0])] (by simp)
        have cel00 := LD.b0.c20
        have f00 := LD.b0.fr 0
        have cel01 := LD.b0.c21
        have f01 := LD.b0.fr 1
        have LL := Lib.hid L
        have hg71 : w.heap.size + 1 < g7 := by omega
        clear L
        go_cut [8] from 26 to 29 (fun s8 wx => ∃ A6 c6, Lq w wx [(.slice A6 (zl U) c6, U.natAbs)] [] [] [(g7, 24, #[.bool (ng U), .slice A6 (zl U) c6]), (w.heap.size + 1, 26, #[.bool false, .slice none 0 0, .int .i64 0])])
        case first =>
          go_region_with (first | (go_at_call 37; (with_reducible refine (HO.out _).mono ?_); rintro e9 wh ⟨vh, rfl, iz, be⟩; obtain ⟨A5, c5, rfl, _⟩ := iz.form; replace LD := (LD.step be).z iz; clear be iz; (try (have r0 := LD.b0.c20; have r1 := LD.b0.c21; have s0 := LD.b0.fr 0; have s1 := LD.b0.fr 1))) | (go_at_call 57; (with_reducible refine (H4.out _ _ _ ?_ ?_).mono ?_); (· (refine LD.getZ ?_; (repeat (first | (with_reducible exact List.mem_cons_self) | apply List.mem_cons_of_mem)))); (· (refine LD.getZ ?_; (repeat (first | (with_reducible exact List.mem_cons_self) | apply List.mem_cons_of_mem)))); rintro e9 wh ⟨vh, rfl, iz, be⟩; obtain ⟨A6, c6, rfl, in6⟩ := iz.form; replace LD := (LD.step be).n in6; clear be iz in6; (try (have r0 := LD.b0.c20; have r1 := LD.b0.c21; have s0 := LD.b0.fr 0; have s1 := LD.b0.fr 1))))
          all_goals
            have LP := LD.putZ (by omega) (by first | (simp; done) | (simp; omega)) (ng U) A6 (zl U) c6
            unfold put2 at LP
            go_wp2_with fail
            go_meet
            exact ⟨_, _, ((((Lq.mk0 w).step LP.below).n (LP.getN (v := .slice A6 (zl U) c6) (x := U.natAbs) (by simp))).b (LP.tl.b0)).b LP.b0⟩
        case rest =>
          obtain ⟨A7, c7, L⟩ := hcut
          generalize wc = wd at *
          replace L := L.z (isZ_n (L.getN (v := .slice A7 (zl U) c7) (x := U.natAbs) (by simp)))
          clear H1 H4 HO LD LL
          have cel00 := L.b0.c20
          have cel01 := L.b0.c21
          (try go_wp2_with fail)
          clear cel00 cel01
          refine (H2.out _ _ (L.getZ (v := .agg #[.bool (ng U), .slice A7 (zl U) c7]) (by simp))).mono ?_
          rintro e w41 ⟨vd, rfl, id, be⟩
          obtain ⟨A9, c9, rfl, _, in9⟩ := id.form
          replace L := (L.step be).n in9
          clear be id in9
          replace L := L.pick [(w.heap.size + 1, 26, #[.bool false, .slice none 0 0, .int .i64 0])] (by simp)
          have c00 := L.b0.c30
          have f00 := L.b0.fr 0
          have c01 := L.b0.c31
          have f01 := L.b0.fr 1
          have c02 := L.b0.c32
          have f02 := L.b0.fr 2
          go_wp2_with fail
          have LP := L.putD (by omega) (by first | (simp; done) | (simp; omega)) (ng N) A9 (zl N) c9 (G)
          have k0 := LP.b0.c30
          have k1 := LP.b0.c31
          have k2 := LP.b0.c32
          unfold put3 at k0 k1 k2
          exact bodyPost_ret (v := .tuple #[.agg #[.bool (ng N), .slice A9 (zl N) c9, .int .i64 (G)], .int .i64 0]) (by simp [results, Tryz.results18, go_sem, k0, k1, k2]) rfl ⟨_, rfl, isD_n (LP.getN (by simp)), LP.below⟩
      · rw [if_pos rfl] at g2 ⊢
        obtain ⟨U, hU⟩ : ∃ z, R = z := ⟨_, rfl⟩
        rw [hU] at g2 ⊢
        obtain ⟨N, hN⟩ : ∃ z, mkM U (j) = z := ⟨_, rfl⟩
        obtain ⟨G, hG⟩ : ∃ z, mkE U (j) = z := ⟨_, rfl⟩
        rw [hN, hG] at g2 ⊢
        have H2 := Lib.hid g2
        clear g2 hN hG
        subst hU
        clear HO H4
        go_enter Tryz.func18, Tryz.ntmps18
        go_wp2_with fail
        have L := ((L0.varD (w.heap.size) (by simp) false A (zl m) c e).varD (w.heap.size + 1) (by simp) false none 0 0 0)
        have c00 := L.b0.c30
        have f00 := L.b0.fr 0
        have c01 := L.b0.c31
        have f01 := L.b0.fr 1
        have c02 := L.b0.c32
        have f02 := L.b0.fr 2
        have c10 := L.tl.b0.c30
        have c11 := L.tl.b0.c31
        have c12 := L.tl.b0.c32
        (try go_wp2_with fail)
        refine (HW.out _).mono ?_
        rintro e9 w' ⟨rfl, rfl⟩
        (try go_wp2_with fail)
        clear c00 f00 c01 f01 c02 f02 c10 c11 c12
        have cel10 := L.tl.b0.c30
        have cel11 := L.tl.b0.c31
        have cel12 := L.tl.b0.c32
        (try go_wp2_with fail)
        clear cel10 cel11 cel12
        refine (H1.out _ _ (isD_b (m := m) (e := e) (s := .slice A (zl m) c) HB.out (L.getN (by simp)))).mono ?_
        rintro e w1 ⟨vv, rfl, iz, be⟩
        replace L := (L.step be).z iz
        obtain ⟨A7, c7, rfl, in9⟩ := iz.form
        replace L := L.n in9
        clear be iz in9
        have hlg7 := L.b0.lt
        replace L := L.varZ w1.heap.size rfl (ng R) A7 (zl R) c7
        have cel00 := L.b0.c20
        have cel01 := L.b0.c21
        go_wp2_with fail
        obtain ⟨g7, hg⟩ : ∃ g, w1.heap.size = g := ⟨_, rfl⟩
        rw [hg] at L hlg7 cel00 cel01 ⊢
        clear hg
        refine (H2.out _ _ (L.getZ (v := .agg #[.bool (ng R), .slice A7 (zl R) c7]) (by simp))).mono ?_
        rintro e w2 ⟨vd, rfl, id, be⟩
        clear cel00 cel01
        obtain ⟨A9, c9, rfl, _, in9⟩ := id.form
        replace L := (L.step be).n in9
        clear be id in9
        replace L := L.pick [(w.heap.size + 1, 26, #[.bool false, .slice none 0 0, .int .i64 0])] (by simp)
        have c00 := L.b0.c30
        have f00 := L.b0.fr 0
        have c01 := L.b0.c31
        have f01 := L.b0.fr 1
        have c02 := L.b0.c32
        have f02 := L.b0.fr 2
        go_wp2_with fail
        have LP := L.putD (by omega) (by first | (simp; done) | (simp; omega)) (ng N) A9 (zl N) c9 (G)
        have k0 := LP.b0.c30
        have k1 := LP.b0.c31
        have k2 := LP.b0.c32
        unfold put3 at k0 k1 k2
        exact bodyPost_ret (v := .tuple #[.agg #[.bool (ng N), .slice A9 (zl N) c9, .int .i64 (G)], .int .i64 0]) (by simp [results, Tryz.results18, go_sem, k0, k1, k2]) rfl ⟨_, rfl, isD_n (LP.getN (by simp)), LP.below⟩

end Go.Proofs.YthfabjpbdgieoaaGreatDoor
