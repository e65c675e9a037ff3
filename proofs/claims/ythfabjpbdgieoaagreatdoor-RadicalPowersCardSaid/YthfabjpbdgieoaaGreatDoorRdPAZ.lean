/- The program's radical: permitted, permittedPower, SqrtFloor, SqrtCeil. -/
import Derived.Test.YthfabjpbdgieoaaGreatDoorRdWZ
import Derived.Test.YthfabjpbdgieoaaGreatDoorGrPC
import Derived.Test.YthfabjpbdgieoaaGreatDoorBaseS
import Derived.Test.YthfabjpbdgieoaaGreatDoorBaseI
import Derived.Test.YthfabjpbdgieoaaGreatDoorBaseG
import Derived.Deep.RegionHeld3
import Derived.Deep.DrawnRows
namespace Go.Proofs.YthfabjpbdgieoaaGreatDoor
open Go.RowKit
set_option linter.unusedVariables false
set_option linter.unusedSimpArgs false
set_option maxRecDepth 100000
attribute [local go_sem ↓] Go.wp_at_zero Go.wp_at_succ

set_option maxHeartbeats 1000000 in
theorem rdperm_any (p : Int) (w : World) :
    Calls Tryz.prog 42 #[.int .i64 p] w (fun e w' => e = .returned (.bool (workB p)) ∧ w = w') := by
  unfold workB
  by_cases q1 : 0 ≤ p
  · have b1 : decide (0 ≤ p) = true := decide_eq_true q1
    rw [b1, Bool.true_and]
    go_enter Tryz.func42, Tryz.ntmps42
    go_wp2_with fail
    go_ret
    exact ⟨rfl, rfl⟩
  · have b1 : decide (0 ≤ p) = false := decide_eq_false q1
    rw [b1, Bool.false_and]
    go_enter Tryz.func42, Tryz.ntmps42
    go_wp2_with fail
    go_ret
    exact ⟨rfl, rfl⟩
def powB (n : Int) : Bool := decide (-64 ≤ n) && decide (n ≤ 64)
set_option maxHeartbeats 1000000 in
theorem rdpow_any (p : Int) (w : World) :
    Calls Tryz.prog 63 #[.int .i64 p] w (fun e w' => e = .returned (.bool (powB p)) ∧ w = w') := by
  unfold powB
  by_cases q1 : -64 ≤ p
  · have b1 : decide (-64 ≤ p) = true := decide_eq_true q1
    rw [b1, Bool.true_and]
    go_enter Tryz.func63, Tryz.ntmps63
    go_wp2_with fail
    go_ret
    exact ⟨rfl, rfl⟩
  · have b1 : decide (-64 ≤ p) = false := decide_eq_false q1
    rw [b1, Bool.false_and]
    go_enter Tryz.func63, Tryz.ntmps63
    go_wp2_with fail
    go_ret
    exact ⟨rfl, rfl⟩
set_option maxHeartbeats 8000000 in
theorem dsqrtf_any (m e k : Int) (vx : Value) (w : World) (hx : IsD w vx m e) (lm : zl m ≤ 400) (he : -10000 ≤ e ∧ e ≤ 10000) (hv : Dv m e) (hk1 : -9223372036854775808 ≤ k) (hk2 : k ≤ 9223372036854775807) (hT : Tab w) :
    Calls Tryz.prog 15 #[vx, .int .i64 k] w (RetSf w m e k) := by
  obtain ⟨A, c, rfl, _, hn1⟩ := hx.form
  have L0 := (Lq.mk0 w).n hn1
  have HW0 := fun W => rdperm_any k W
  unfold RetSf
  cases hw : workB k
  · rw [if_neg (by decide)]
    rw [hw] at HW0
    have HW := Lib.hid HW0
    clear HW0 hx hn1 hw lm he hT
    go_enter Tryz.func15, Tryz.ntmps15
    go_wp2_with fail
    have L := ((L0.varD (w.heap.size) (by simp) (ng m) A (zl m) c e).varD (w.heap.size + 1) (by simp) false none 0 0 0)
    have c00 := L.b0.c30
    have f00 := L.b0.fr 0
    have c01 := L.b0.c31
    have f01 := L.b0.fr 1
    have c02 := L.b0.c32
    have f02 := L.b0.fr 2
    have c10 := L.tl.b0.c30
    have c11 := L.tl.b0.c31
    have c12 := L.tl.b0.c32
    (try go_wp2_with fail)
    refine (HW.out _).mono ?_
    rintro e9 w' ⟨rfl, rfl⟩
    (try go_wp2_with fail)
    exact bodyPost_ret (v := .tuple #[.agg #[.bool false, .slice none 0 0, .int .i64 0], .int .i64 1]) (by simp [results, Tryz.results15, go_sem, c00, c01, c02]) rfl (RetDE.z L.below _)
  · rw [if_pos rfl]
    rw [hw] at HW0
    have HW := Lib.hid HW0
    have g1 := fun v W h => dsign_any m e v W h (by omega)
    have hc := cmp_neg0 m
    obtain ⟨x1, hx1⟩ : ∃ x, cmpI m 0 = x := ⟨_, rfl⟩
    rw [hx1] at g1 hc
    have H1 := Lib.hid g1
    clear HW0 g1 hx1
    by_cases hm : m < 0
    · rw [if_pos hm]
      have b1 : decide (x1 < 0) = true := decide_eq_true (hc.2 hm)
      clear hx hn1 hw lm he hT hc
      go_enter Tryz.func15, Tryz.ntmps15
      go_wp2_with fail
      have L := ((L0.varD (w.heap.size) (by simp) (ng m) A (zl m) c e).varD (w.heap.size + 1) (by simp) false none 0 0 0)
      have c00 := L.b0.c30
      have f00 := L.b0.fr 0
      have c01 := L.b0.c31
      have f01 := L.b0.fr 1
      have c02 := L.b0.c32
      have f02 := L.b0.fr 2
      have c10 := L.tl.b0.c30
      have c11 := L.tl.b0.c31
      have c12 := L.tl.b0.c32
      (try go_wp2_with fail)
      refine (HW.out _).mono ?_
      rintro e9 w' ⟨rfl, rfl⟩
      (try go_wp2_with fail)
      refine (H1.out _ _ (isD_n (m := m) (e := e) (s := .slice A (zl m) c) (L.getN (v := .slice A (zl m) c) (x := (m).natAbs) (by simp)))).mono ?_
      rintro e w1 ⟨rfl, be⟩
      clear c00 f00 c01 f01 c02 f02 c10 c11 c12
      replace L := L.step be
      clear be
      have c00 := L.b0.c30
      have f00 := L.b0.fr 0
      have c01 := L.b0.c31
      have f01 := L.b0.fr 1
      have c02 := L.b0.c32
      have f02 := L.b0.fr 2
      have c10 := L.tl.b0.c30
      have c11 := L.tl.b0.c31
      have c12 := L.tl.b0.c32
      (try go_wp2_with fail)
      have LP := L.putD (by omega) (by first | (simp; done) | (simp; omega)) (false) none (0) 0 (0)
      have k0 := LP.b0.c30
      have k1 := LP.b0.c31
      have k2 := LP.b0.c32
      unfold put3 at k0 k1 k2
      exact bodyPost_ret (v := .tuple #[.agg #[.bool (false), .slice none (0) 0, .int .i64 (0)], .int .i64 4]) (by simp [results, Tryz.results15, go_sem, k0, k1, k2]) rfl (RetDE.z LP.below _)
    · rw [if_neg hm]
      have b1 : decide (x1 < 0) = false := decide_eq_false (fun h => hm (hc.1 h))
      obtain ⟨s0, s1, s2, _, s4, s5, _⟩ := sq_size lm he (Int.not_lt.1 hm) hw
      obtain ⟨_, k0, k1⟩ := work_perm hw
      have p2 : permB (2 * k) = true := by unfold permB; rw [decide_eq_true (show -2048 ≤ 2 * k by omega), decide_eq_true (show 2 * k ≤ 8192 by omega)]; rfl
      have g2 := fun v W h (hW : Below w.heap.size w W) => gfloor_any m e (2 * k) v W h (by omega) (by omega) (by omega) (by omega) (hT.mono hW)
      rw [(g_yes p2 _).1, (g_yes p2 _).2.1, (g_yes p2 _).2.2, s4] at g2
      obtain ⟨t, t1, t2, t3⟩ := mk_shl (by omega) s4
      have z2 := zl_mk (cutQ (dq m e) (2 * k)) (-(2 * k))
      have g3 := fun v W h => zshl_any (mkM (cutQ (dq m e) (2 * k)) (-(2 * k))) v W h (by omega) t (by omega)
      rw [t2] at g3
      have g4 := fun v W h => sqrt_any (cutQ (dq m e) (2 * k)).natAbs v W h (show len (cutQ (dq m e) (2 * k)).natAbs ≤ 10000 from Nat.le_trans s1 (by omega))
      have g5 := fun v W h => znn_any (rt 2 (cutQ (dq m e) (2 * k)).natAbs) v W h (show len (rt 2 (cutQ (dq m e) (2 * k)).natAbs) ≤ 1000000 from Nat.le_trans s2 (by omega))
      have g6 := fun v W h (hW : Below w.heap.size w W) => dmake_any (sqR (dq m e) k) (-k) v W h (by omega) (hT.mono hW)
      rw [s5] at g6
      have e1 : (rt 2 (cutQ (dq m e) (2 * k)).natAbs : Int) = sqR (dq m e) k := rfl
      rw [e1] at g5
      have bE := mkE_in (cutQ (dq m e) (2 * k)) (2 * k) (by omega)
      obtain ⟨k2, hk2'⟩ : ∃ z, 2 * k = z := ⟨_, rfl⟩
      have w1 : IntKind.i64.wrap (2 * k) = k2 := by rw [IntKind.wrap_i64]; omega
      rw [hk2'] at g2 g3 g4 g5 t1 bE s1 z2
      obtain ⟨C, hC⟩ : ∃ z, cutQ (dq m e) k2 = z := ⟨_, rfl⟩
      rw [hC] at g2 g3 g4 g5 t1 bE s1 z2
      obtain ⟨M, hM⟩ : ∃ z, mkM C (-k2) = z := ⟨_, rfl⟩
      obtain ⟨E, hE⟩ : ∃ z, mkE C (-k2) = z := ⟨_, rfl⟩
      rw [hM] at g2 g3
      rw [hE] at g2 t1 bE
      have w2 : IntKind.i64.wrap (E + k2) = (t : Int) := by rw [IntKind.wrap_i64]; omega
      obtain ⟨j, hj⟩ : ∃ z, -k = z := ⟨_, rfl⟩
      have w3 : IntKind.i64.wrap (-k) = j := by rw [IntKind.wrap_i64]; omega
      rw [hj] at g6 ⊢
      obtain ⟨R, hR⟩ : ∃ z, sqR (dq m e) k = z := ⟨_, rfl⟩
      rw [hR] at g5 g6 ⊢
      obtain ⟨N, hN⟩ : ∃ z, mkM R j = z := ⟨_, rfl⟩
      obtain ⟨G, hG⟩ : ∃ z, mkE R j = z := ⟨_, rfl⟩
      rw [hN, hG] at g6 ⊢
      obtain ⟨rr, hrr⟩ : ∃ z, rt 2 C.natAbs = z := ⟨_, rfl⟩
      obtain ⟨rs, hrs⟩ : ∃ z, C.natAbs - rt 2 C.natAbs * rt 2 C.natAbs = z := ⟨_, rfl⟩
      rw [hrs, hrr] at g4
      rw [hrr] at g5
      have H2 := Lib.hid g2
      have H3 := Lib.hid g3
      have H4 := Lib.hid g4
      have H5 := Lib.hid g5
      have H6 := Lib.hid g6
      clear g2 g3 g4 g5 g6 e1 hC hM hE hR hN hG hrr hrs hj hk2' hx hn1 hw lm he hT hc s0 s1 s2 s4 s5 k0 k1 p2 t1 t2 t3 z2 bE hm
      go_enter Tryz.func15, Tryz.ntmps15
      go_wp2_with fail
      have L := ((L0.varD (w.heap.size) (by simp) (ng m) A (zl m) c e).varD (w.heap.size + 1) (by simp) false none 0 0 0)
      have c00 := L.b0.c30
      have f00 := L.b0.fr 0
      have c01 := L.b0.c31
      have f01 := L.b0.fr 1
      have c02 := L.b0.c32
      have f02 := L.b0.fr 2
      have c10 := L.tl.b0.c30
      have c11 := L.tl.b0.c31
      have c12 := L.tl.b0.c32
      (try go_wp2_with fail)
      refine (HW.out _).mono ?_
      rintro e9 w' ⟨rfl, rfl⟩
      (try go_wp2_with fail)
      refine (H1.out _ _ (isD_n (m := m) (e := e) (s := .slice A (zl m) c) (L.getN (v := .slice A (zl m) c) (x := (m).natAbs) (by simp)))).mono ?_
      rintro e w1 ⟨rfl, be⟩
      clear c00 f00 c01 f01 c02 f02 c10 c11 c12
      replace L := L.step be
      clear be
      have c00 := L.b0.c30
      have f00 := L.b0.fr 0
      have c01 := L.b0.c31
      have f01 := L.b0.fr 1
      have c02 := L.b0.c32
      have f02 := L.b0.fr 2
      have c10 := L.tl.b0.c30
      have c11 := L.tl.b0.c31
      have c12 := L.tl.b0.c32
      (try go_wp2_with fail)
      refine (H2.out _ _ (isD_n (m := m) (e := e) (s := .slice A (zl m) c) (L.getN (v := .slice A (zl m) c) (x := (m).natAbs) (by simp))) L.below).mono ?_
      rintro e w2 ⟨vv, rfl, id, be⟩
      clear c00 f00 c01 f01 c02 f02 c10 c11 c12
      obtain ⟨A8, c8, rfl, _, in9⟩ := id.form
      replace L := (L.step be).n in9
      clear be id in9
      have hlg8 := L.b0.lt
      replace L := L.varD w2.heap.size rfl (ng M) A8 (zl M) c8 E
      have cel00 := L.b0.c30
      have cel01 := L.b0.c31
      have cel02 := L.b0.c32
      go_wp2_with fail
      obtain ⟨g8, hg⟩ : ∃ g, w2.heap.size = g := ⟨_, rfl⟩
      rw [hg] at L hlg8 cel00 cel01 cel02 ⊢
      clear hg
      clear cel00 cel01 cel02
      refine (H3.out _ _ (isZ_n (z := M) (s := .slice A8 (zl M) c8) (L.getN (by simp)))).mono ?_
      rintro e w3 ⟨vv, rfl, iz, be⟩
      replace L := (L.step be).z iz
      obtain ⟨A7, c7, rfl, in9⟩ := iz.form
      replace L := L.n in9
      clear be iz in9
      have hlg7 := L.b0.lt
      replace L := L.varZ w3.heap.size rfl (ng C) A7 (zl C) c7
      have cel00 := L.b0.c20
      have cel01 := L.b0.c21
      go_wp2_with fail
      obtain ⟨g7, hg⟩ : ∃ g, w3.heap.size = g := ⟨_, rfl⟩
      rw [hg] at L hlg7 cel00 cel01 ⊢
      clear hg
      clear cel00 cel01
      refine (H4.out _ _ (L.getN (v := .slice A7 (zl C) c7) (x := C.natAbs) (by simp))).mono ?_
      rintro e w4 ⟨vq, vr, rfl, oq, or_, be⟩
      replace L := (L.step be).n (isN_of_own oq rfl)
      clear be oq or_
      (try go_wp2_with fail)
      refine (H5.out _ _ (L.getN (v := vq) (x := rr) (by simp))).mono ?_
      rintro e w5 ⟨vz, rfl, iz, be⟩
      replace L := (L.step be).z iz
      clear be iz
      (try go_wp2_with fail)
      refine (H6.out _ _ (L.getZ (by simp)) L.below).mono ?_
      rintro e w6 ⟨vd, rfl, id, be⟩
      obtain ⟨A9, c9, rfl, _, in9⟩ := id.form
      replace L := (L.step be).n in9
      clear be id in9
      replace L := L.pick [(w.heap.size + 1, 26, #[.bool false, .slice none 0 0, .int .i64 0])] (by simp)
      have c00 := L.b0.c30
      have f00 := L.b0.fr 0
      have c01 := L.b0.c31
      have f01 := L.b0.fr 1
      have c02 := L.b0.c32
      have f02 := L.b0.fr 2
      go_wp2_with fail
      have LP := L.putD (by omega) (by first | (simp; done) | (simp; omega)) (ng N) A9 (zl N) c9 (G)
      have k0 := LP.b0.c30
      have k1 := LP.b0.c31
      have k2 := LP.b0.c32
      unfold put3 at k0 k1 k2
      exact bodyPost_ret (v := .tuple #[.agg #[.bool (ng N), .slice A9 (zl N) c9, .int .i64 (G)], .int .i64 0]) (by simp [results, Tryz.results15, go_sem, k0, k1, k2]) rfl ⟨_, rfl, isD_n (LP.getN (by simp)), LP.below⟩
set_option maxHeartbeats 8000000 in
theorem dsqrtc_any (m e k : Int) (vx : Value) (w : World) (hx : IsD w vx m e) (lm : zl m ≤ 400) (he : -10000 ≤ e ∧ e ≤ 10000) (hv : Dv m e) (hk1 : -9223372036854775808 ≤ k) (hk2 : k ≤ 9223372036854775807) (hT : Tab w) :
    Calls Tryz.prog 16 #[vx, .int .i64 k] w (RetSc w m e k) := by
  obtain ⟨A, c, rfl, _, hn1⟩ := hx.form
  have L0 := (Lq.mk0 w).n hn1
  have g1 := fun v W h (hW : Below w.heap.size w W) => dsqrtf_any m e k v W h lm he hv hk1 hk2 (hT.mono hW)
  unfold RetSf at g1
  unfold RetSc
  cases hw : workB k
  · rw [if_neg (by decide)]
    simp only [hw, Bool.false_eq_true, if_false] at g1
    have H1 := Lib.hid g1
    clear g1 hx hn1 hw lm he hv hT
    go_enter Tryz.func16, Tryz.ntmps16
    go_wp2_with fail
    have L := ((L0.varD (w.heap.size) (by simp) (ng m) A (zl m) c e).varD (w.heap.size + 1) (by simp) false none 0 0 0)
    have c00 := L.b0.c30
    have f00 := L.b0.fr 0
    have c01 := L.b0.c31
    have f01 := L.b0.fr 1
    have c02 := L.b0.c32
    have f02 := L.b0.fr 2
    have c10 := L.tl.b0.c30
    have c11 := L.tl.b0.c31
    have c12 := L.tl.b0.c32
    (try go_wp2_with fail)
    refine (H1.out _ _ (isD_n (m := m) (e := e) (s := .slice A (zl m) c) (L.getN (v := .slice A (zl m) c) (x := (m).natAbs) (by simp))) L.below).mono ?_
    rintro e w1 ⟨vd, rfl, id, be⟩
    clear c00 f00 c01 f01 c02 f02 c10 c11 c12
    obtain ⟨A9, c9, rfl, _, in9⟩ := id.form
    replace L := (L.step be).n in9
    clear be id in9
    replace L := L.varD w1.heap.size rfl (ng 0) A9 (zl 0) c9 0
    have x0 := L.b0.c30
    have x1 := L.b0.c31
    have x2 := L.b0.c32
    have R := L.pick [(w.heap.size + 1, 26, #[.bool false, .slice none 0 0, .int .i64 0])] (by simp)
    have r0 := R.b0.c30
    have s0 := R.b0.fr 0
    have r1 := R.b0.c31
    have s1 := R.b0.fr 1
    have r2 := R.b0.c32
    have s2 := R.b0.fr 2
    go_wp2_with fail
    have LP := R.putD (by omega) (by first | (simp; done) | (simp; omega)) false none 0 0 0
    have k0 := LP.b0.c30
    have k1 := LP.b0.c31
    have k2 := LP.b0.c32
    unfold put3 at k0 k1 k2
    exact bodyPost_ret (v := .tuple #[.agg #[.bool false, .slice none 0 0, .int .i64 0], .int .i64 1]) (by simp [results, Tryz.results16, go_sem, k0, k1, k2]) rfl (RetDE.z LP.below _)
  · rw [if_pos rfl]
    simp only [hw, if_true] at g1
    by_cases hm : m < 0
    · rw [if_pos hm]
      simp only [if_pos hm] at g1
      have H1 := Lib.hid g1
      clear g1 hx hn1 hw lm he hv hT hm
      go_enter Tryz.func16, Tryz.ntmps16
      go_wp2_with fail
      have L := ((L0.varD (w.heap.size) (by simp) (ng m) A (zl m) c e).varD (w.heap.size + 1) (by simp) false none 0 0 0)
      have c00 := L.b0.c30
      have f00 := L.b0.fr 0
      have c01 := L.b0.c31
      have f01 := L.b0.fr 1
      have c02 := L.b0.c32
      have f02 := L.b0.fr 2
      have c10 := L.tl.b0.c30
      have c11 := L.tl.b0.c31
      have c12 := L.tl.b0.c32
      (try go_wp2_with fail)
      refine (H1.out _ _ (isD_n (m := m) (e := e) (s := .slice A (zl m) c) (L.getN (v := .slice A (zl m) c) (x := (m).natAbs) (by simp))) L.below).mono ?_
      rintro e w1 ⟨vd, rfl, id, be⟩
      clear c00 f00 c01 f01 c02 f02 c10 c11 c12
      obtain ⟨A9, c9, rfl, _, in9⟩ := id.form
      replace L := (L.step be).n in9
      clear be id in9
      replace L := L.varD w1.heap.size rfl (ng 0) A9 (zl 0) c9 0
      have x0 := L.b0.c30
      have x1 := L.b0.c31
      have x2 := L.b0.c32
      have R := L.pick [(w.heap.size + 1, 26, #[.bool false, .slice none 0 0, .int .i64 0])] (by simp)
      have r0 := R.b0.c30
      have s0 := R.b0.fr 0
      have r1 := R.b0.c31
      have s1 := R.b0.fr 1
      have r2 := R.b0.c32
      have s2 := R.b0.fr 2
      go_wp2_with fail
      have LP := R.putD (by omega) (by first | (simp; done) | (simp; omega)) false none 0 0 0
      have k0 := LP.b0.c30
      have k1 := LP.b0.c31
      have k2 := LP.b0.c32
      unfold put3 at k0 k1 k2
      exact bodyPost_ret (v := .tuple #[.agg #[.bool false, .slice none 0 0, .int .i64 0], .int .i64 4]) (by simp [results, Tryz.results16, go_sem, k0, k1, k2]) rfl (RetDE.z LP.below _)
    · rw [if_neg hm]
      simp only [if_neg hm] at g1
      obtain ⟨s0, s1, s2, s3, s4, s5, s6⟩ := sq_size lm he (Int.not_lt.1 hm) hw
      obtain ⟨q1, q2, q3, q4, q5, q6⟩ := sq_square hw s5 s2
      obtain ⟨_, k0, k1⟩ := work_perm hw
      have g2 := fun v u W h1 h2 (hW : Below w.heap.size w W) => dmul_any (mkM (sqR (dq m e) k) (-k)) (mkE (sqR (dq m e) k) (-k)) (mkM (sqR (dq m e) k) (-k)) (mkE (sqR (dq m e) k) (-k)) v u W h1 h2 (by omega) (by omega) (by omega) (by omega) (hT.mono hW)
      rw [q3] at g2
      have g3 := fun v u W h1 h2 => dcmp_any (mkM (mkM (sqR (dq m e) k) (-k) * mkM (sqR (dq m e) k) (-k)) (mkE (sqR (dq m e) k) (-k) + mkE (sqR (dq m e) k) (-k))) (mkE (mkM (sqR (dq m e) k) (-k) * mkM (sqR (dq m e) k) (-k)) (mkE (sqR (dq m e) k) (-k) + mkE (sqR (dq m e) k) (-k))) m e v u W h1 h2 (by omega) (by omega) (by omega) (by omega)
      have hx0 := dcm_zero_iff (mkM (mkM (sqR (dq m e) k) (-k) * mkM (sqR (dq m e) k) (-k)) (mkE (sqR (dq m e) k) (-k) + mkE (sqR (dq m e) k) (-k))) (mkE (mkM (sqR (dq m e) k) (-k) * mkM (sqR (dq m e) k) (-k)) (mkE (sqR (dq m e) k) (-k) + mkE (sqR (dq m e) k) (-k))) m e
      rw [q6] at hx0
      obtain ⟨x, hx9⟩ : ∃ z, dcm (mkM (mkM (sqR (dq m e) k) (-k) * mkM (sqR (dq m e) k) (-k)) (mkE (sqR (dq m e) k) (-k) + mkE (sqR (dq m e) k) (-k))) (mkE (mkM (sqR (dq m e) k) (-k) * mkM (sqR (dq m e) k) (-k)) (mkE (sqR (dq m e) k) (-k) + mkE (sqR (dq m e) k) (-k))) m e = z := ⟨_, rfl⟩
      rw [hx9] at hx0
      unfold dcm at hx9
      rw [hx9] at g3
      have g4 := fun W (hW : Below w.heap.size w W) => gunit_any k W hk1 hk2 (hT.mono hW)
      have pk : permB k = true := by unfold permB; rw [decide_eq_true (show -2048 ≤ k by omega), decide_eq_true (show k ≤ 8192 by omega)]; rfl
      obtain ⟨u1, u2, u3⟩ := mk_unit k0 k1
      rw [(g_yes pk _).1, (g_yes pk _).2.1, (g_yes pk _).2.2, u1, u2, u3] at g4
      have z1 : zl 1 ≤ 1 := len_le1 (by decide)
      have g5 := fun v u W h1 h2 (hW : Below w.heap.size w W) => dadd_any (mkM (sqR (dq m e) k) (-k)) (mkE (sqR (dq m e) k) (-k)) 1 (-k) v u W h1 h2 (by omega) (by omega) (by omega) (by omega) (hT.mono hW)
      obtain ⟨n1, n2⟩ := mk_next k0 s5
      rw [n1, n2] at g5
      have hU : sqU (dq m e) k = if x = 0 then sqR (dq m e) k else sqR (dq m e) k + 1 := by
        unfold sqU
        by_cases h0 : x = 0
        · rw [if_pos h0, if_pos (hx0.1 h0)]
        · rw [if_neg h0, if_neg (fun h => h0 (hx0.2 h))]
      obtain ⟨j, hj⟩ : ∃ z, -k = z := ⟨_, rfl⟩
      rw [hj] at g1 g2 g3 g4 g5 s6 ⊢
      obtain ⟨R, hR⟩ : ∃ z, sqR (dq m e) k = z := ⟨_, rfl⟩
      rw [hR] at g1 g2 g3 g5 hU
      obtain ⟨N, hN⟩ : ∃ z, mkM R j = z := ⟨_, rfl⟩
      obtain ⟨G, hG⟩ : ∃ z, mkE R j = z := ⟨_, rfl⟩
      rw [hN, hG] at g1 g2 g3 g5
      obtain ⟨S, hS⟩ : ∃ z, mkM (N * N) (G + G) = z := ⟨_, rfl⟩
      obtain ⟨F, hF⟩ : ∃ z, mkE (N * N) (G + G) = z := ⟨_, rfl⟩
      rw [hS, hF] at g2 g3
      have H1 := Lib.hid g1
      have H2 := Lib.hid g2
      have H3 := Lib.hid g3
      have H4 := Lib.hid g4
      clear g1 g2 g3 g4 q1 q2 q3 q4 q5 q6 hx0 hx9 s0 s1 s2 s3 s4 s5 k0 k1 pk u1 u2 u3 z1 n1 n2 hS hF hx hn1 hw lm he hv hT hm
      rw [hU] at s6 ⊢
      clear hU
      by_cases h0 : x = 0
      · rw [if_pos h0]
        have b0 : (x == 0) = true := by simpa using h0
        rw [hN, hG]
        clear h0 hN hG hR hj s6 g5
        go_enter Tryz.func16, Tryz.ntmps16
        go_wp2_with fail
        have L := ((L0.varD (w.heap.size) (by simp) (ng m) A (zl m) c e).varD (w.heap.size + 1) (by simp) false none 0 0 0)
        have c00 := L.b0.c30
        have f00 := L.b0.fr 0
        have c01 := L.b0.c31
        have f01 := L.b0.fr 1
        have c02 := L.b0.c32
        have f02 := L.b0.fr 2
        have c10 := L.tl.b0.c30
        have c11 := L.tl.b0.c31
        have c12 := L.tl.b0.c32
        (try go_wp2_with fail)
        clear c00 f00 c01 f01 c02 f02 c10 c11 c12
        refine (H1.out _ _ (isD_n (m := m) (e := e) (s := .slice A (zl m) c) (L.getN (v := .slice A (zl m) c) (x := (m).natAbs) (by simp))) L.below).mono ?_
        rintro e w1 ⟨vv, rfl, id, be⟩
        obtain ⟨A8, c8, rfl, _, in9⟩ := id.form
        replace L := (L.step be).n in9
        clear be id in9
        have hlg8 := L.b0.lt
        replace L := L.varD w1.heap.size rfl (ng N) A8 (zl N) c8 G
        have cel00 := L.b0.c30
        have cel01 := L.b0.c31
        have cel02 := L.b0.c32
        go_wp2_with fail
        obtain ⟨g8, hg⟩ : ∃ g, w1.heap.size = g := ⟨_, rfl⟩
        rw [hg] at L hlg8 cel00 cel01 cel02 ⊢
        clear hg
        refine (H2.out _ _ _ (isD_n (m := N) (e := G) (s := .slice A8 (zl N) c8) (L.getN (by simp))) (isD_n (m := N) (e := G) (s := .slice A8 (zl N) c8) (L.getN (by simp))) L.below).mono ?_
        rintro e w2 ⟨vv, rfl, id, be⟩
        clear cel00 cel01 cel02
        obtain ⟨A7, c7, rfl, _, in9⟩ := id.form
        replace L := (L.step be).n in9
        clear be id in9
        have hlg7 := L.b0.lt
        replace L := L.varD w2.heap.size rfl (ng S) A7 (zl S) c7 F
        have cel00 := L.b0.c30
        have cel01 := L.b0.c31
        have cel02 := L.b0.c32
        have cel30 := L.tl.tl.tl.b0.c30
        have cel31 := L.tl.tl.tl.b0.c31
        have cel32 := L.tl.tl.tl.b0.c32
        go_wp2_with fail
        obtain ⟨g7, hg⟩ : ∃ g, w2.heap.size = g := ⟨_, rfl⟩
        rw [hg] at L hlg7 cel00 cel01 cel02 ⊢
        clear hg
        refine (H3.out _ _ _ (isD_n (m := S) (e := F) (s := .slice A7 (zl S) c7) (L.getN (by simp))) (isD_n (m := m) (e := e) (s := .slice A (zl m) c) (L.getN (v := .slice A (zl m) c) (x := (m).natAbs) (by simp)))).mono ?_
        rintro e w3 ⟨rfl, be⟩
        clear cel00 cel01 cel02 cel30 cel31 cel32
        replace L := L.step be
        clear be
        replace L := L.pick [(w.heap.size + 1, 26, #[.bool false, .slice none 0 0, .int .i64 0]), (g8, 26, #[.bool (ng N), .slice A8 (zl N) c8, .int .i64 G])] (by simp)
        have c00 := L.b0.c30
        have f00 := L.b0.fr 0
        have c01 := L.b0.c31
        have f01 := L.b0.fr 1
        have c02 := L.b0.c32
        have f02 := L.b0.fr 2
        have c10 := L.tl.b0.c30
        have c11 := L.tl.b0.c31
        have c12 := L.tl.b0.c32
        (try go_wp2_with fail)
        have LP := L.putD (by omega) (by first | (simp; done) | (simp; omega)) (ng N) A8 (zl N) c8 (G)
        have k0 := LP.b0.c30
        have k1 := LP.b0.c31
        have k2 := LP.b0.c32
        unfold put3 at k0 k1 k2
        exact bodyPost_ret (v := .tuple #[.agg #[.bool (ng N), .slice A8 (zl N) c8, .int .i64 (G)], .int .i64 0]) (by simp [results, Tryz.results16, go_sem, k0, k1, k2]) rfl ⟨_, rfl, isD_n (LP.getN (by simp)), LP.below⟩
      · rw [if_neg h0] at s6
        rw [if_neg h0]
        rw [s6] at g5
        have H5 := Lib.hid g5
        have b0 : (x == 0) = false := by simpa using h0
        obtain ⟨M2, hM2⟩ : ∃ z, mkM (R + 1) j = z := ⟨_, rfl⟩
        obtain ⟨E2, hE2⟩ : ∃ z, mkE (R + 1) j = z := ⟨_, rfl⟩
        rw [hM2, hE2] at H5 ⊢
        clear h0 hN hG hR hj s6 g5 hM2 hE2
        go_enter Tryz.func16, Tryz.ntmps16
        go_wp2_with fail
        have L := ((L0.varD (w.heap.size) (by simp) (ng m) A (zl m) c e).varD (w.heap.size + 1) (by simp) false none 0 0 0)
        have c00 := L.b0.c30
        have f00 := L.b0.fr 0
        have c01 := L.b0.c31
        have f01 := L.b0.fr 1
        have c02 := L.b0.c32
        have f02 := L.b0.fr 2
        have c10 := L.tl.b0.c30
        have c11 := L.tl.b0.c31
        have c12 := L.tl.b0.c32
        (try go_wp2_with fail)
        clear c00 f00 c01 f01 c02 f02 c10 c11 c12
        refine (H1.out _ _ (isD_n (m := m) (e := e) (s := .slice A (zl m) c) (L.getN (v := .slice A (zl m) c) (x := (m).natAbs) (by simp))) L.below).mono ?_
        rintro e w1 ⟨vv, rfl, id, be⟩
        obtain ⟨A8, c8, rfl, _, in9⟩ := id.form
        replace L := (L.step be).n in9
        clear be id in9
        have hlg8 := L.b0.lt
        replace L := L.varD w1.heap.size rfl (ng N) A8 (zl N) c8 G
        have cel00 := L.b0.c30
        have cel01 := L.b0.c31
        have cel02 := L.b0.c32
        go_wp2_with fail
        obtain ⟨g8, hg⟩ : ∃ g, w1.heap.size = g := ⟨_, rfl⟩
        rw [hg] at L hlg8 cel00 cel01 cel02 ⊢
        clear hg
        refine (H2.out _ _ _ (isD_n (m := N) (e := G) (s := .slice A8 (zl N) c8) (L.getN (by simp))) (isD_n (m := N) (e := G) (s := .slice A8 (zl N) c8) (L.getN (by simp))) L.below).mono ?_
        rintro e w2 ⟨vv, rfl, id, be⟩
        clear cel00 cel01 cel02
        obtain ⟨A7, c7, rfl, _, in9⟩ := id.form
        replace L := (L.step be).n in9
        clear be id in9
        have hlg7 := L.b0.lt
        replace L := L.varD w2.heap.size rfl (ng S) A7 (zl S) c7 F
        have cel00 := L.b0.c30
        have cel01 := L.b0.c31
        have cel02 := L.b0.c32
        have cel30 := L.tl.tl.tl.b0.c30
        have cel31 := L.tl.tl.tl.b0.c31
        have cel32 := L.tl.tl.tl.b0.c32
        go_wp2_with fail
        obtain ⟨g7, hg⟩ : ∃ g, w2.heap.size = g := ⟨_, rfl⟩
        rw [hg] at L hlg7 cel00 cel01 cel02 ⊢
        clear hg
        refine (H3.out _ _ _ (isD_n (m := S) (e := F) (s := .slice A7 (zl S) c7) (L.getN (by simp))) (isD_n (m := m) (e := e) (s := .slice A (zl m) c) (L.getN (v := .slice A (zl m) c) (x := (m).natAbs) (by simp)))).mono ?_
        rintro e w3 ⟨rfl, be⟩
        clear cel00 cel01 cel02 cel30 cel31 cel32
        replace L := L.step be
        clear be
        (try go_wp2_with fail)
        refine (H4.out _ L.below).mono ?_
        rintro e w4 ⟨vv, rfl, id, be⟩
        obtain ⟨A6, c6, rfl, _, in9⟩ := id.form
        replace L := (L.step be).n in9
        clear be id in9
        have hlg6 := L.b0.lt
        have hlg6' := L.tl.b0.lt
        replace L := L.varD w4.heap.size rfl (ng 1) A6 (zl 1) c6 j
        have cel00 := L.b0.c30
        have cel01 := L.b0.c31
        have cel02 := L.b0.c32
        have cel20 := L.tl.tl.b0.c30
        have cel21 := L.tl.tl.b0.c31
        have cel22 := L.tl.tl.b0.c32
        go_wp2_with fail
        obtain ⟨g6, hg⟩ : ∃ g, w4.heap.size = g := ⟨_, rfl⟩
        rw [hg] at L hlg6 hlg6' cel00 cel01 cel02 ⊢
        clear hg
        refine (H5.out _ _ _ (isD_n (m := N) (e := G) (s := .slice A8 (zl N) c8) (L.getN (by simp))) (isD_n (m := 1) (e := j) (s := .slice A6 (zl 1) c6) (L.getN (by simp))) L.below).mono ?_
        rintro e w5 ⟨vd, rfl, id, be⟩
        clear cel00 cel01 cel02 cel20 cel21 cel22
        obtain ⟨A9, c9, rfl, _, in9⟩ := id.form
        replace L := (L.step be).n in9
        clear be id in9
        replace L := L.pick [(w.heap.size + 1, 26, #[.bool false, .slice none 0 0, .int .i64 0])] (by simp)
        have c00 := L.b0.c30
        have f00 := L.b0.fr 0
        have c01 := L.b0.c31
        have f01 := L.b0.fr 1
        have c02 := L.b0.c32
        have f02 := L.b0.fr 2
        go_wp2_with fail
        have LP := L.putD (by omega) (by first | (simp; done) | (simp; omega)) (ng M2) A9 (zl M2) c9 (E2)
        have k0 := LP.b0.c30
        have k1 := LP.b0.c31
        have k2 := LP.b0.c32
        unfold put3 at k0 k1 k2
        exact bodyPost_ret (v := .tuple #[.agg #[.bool (ng M2), .slice A9 (zl M2) c9, .int .i64 (E2)], .int .i64 0]) (by simp [results, Tryz.results16, go_sem, k0, k1, k2]) rfl ⟨_, rfl, isD_n (LP.getN (by simp)), LP.below⟩

end Go.Proofs.YthfabjpbdgieoaaGreatDoor
