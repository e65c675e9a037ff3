/- The walk of GridTwice: whatever the input, the law returns true and turns nothing that was there. -/
import Derived.Test.YtgjljalcgiddgaaDoorAwake9
import Derived.Test.YtgjljalcgiddgaaDoorBaseF
import Derived.Test.YtgjljalcgiddgaaDoorBaseR
import Derived.Test.YtgjljalcgiddgaaDoorBaseM
import Derived.Deep.RegionHeld3
import Derived.Deep.DrawnRows
namespace Go.Proofs.YtgjljalcgiddgaaDoor
open Go.RowKit
set_option linter.unusedVariables false
set_option linter.unusedSimpArgs false
set_option maxRecDepth 100000
attribute [local go_sem ↓] Go.wp_at_zero Go.wp_at_succ

theorem near_self (C p : Int) : (cutQ (dq C (-p)) (p + 1) + 1) / 2 = C := by
  have e1 : dq C (-p) = dq (2 * C) (-(p + 1)) := dq_eq (F := -(p + 1)) (by rw [show -(p + 1) - -(p + 1) = 0 by omega, show -p - -(p + 1) = 1 by omega]; show C * 2 = 2 * C * 1; omega) (by omega) (by omega)
  rw [e1, cut_self]
  omega
theorem perm_in {p : Int} (h1 : -2048 ≤ p) (h2 : p ≤ 8192) : permB p = true := by
  unfold permB
  rw [decide_eq_true h1, decide_eq_true h2]; rfl

set_option maxHeartbeats 8000000 in
theorem walk_GridTwice (b0 : Bool) (a0 : Option Addr) (len0 cap0 : Nat) (z0 : List Nat) (x0 : Option Addr) (nen0 nap0 : Nat) (y0 : List Nat) (a1 : Int) (a2 : Int) (w : World) (h0 : Sl w a0 len0 cap0 z0 ∧ Sl w x0 nen0 nap0 y0) (h1 : -9223372036854775808 ≤ a1 ∧ a1 ≤ 9223372036854775807) (h2 : -9223372036854775808 ≤ a2 ∧ a2 ≤ 9223372036854775807) (hT : Tab w) :
    Calls Tryd.prog 6 #[.agg #[.bool b0, .slice a0 len0 cap0, .slice x0 nen0 nap0], .int .i64 a1, .int .i64 a2] w (fun e w' => e = .returned (.bool true) ∧ Below w.heap.size w w') := by
  have hm1 := Int.emod_nonneg a1 (show (200 : Int) ≠ 0 by omega)
  have hm2 := Int.emod_lt_of_pos a1 (show (0 : Int) < 200 by omega)
  have hm3 := Int.emod_nonneg a2 (show (100 : Int) ≠ 0 by omega)
  have hm4 := Int.emod_lt_of_pos a2 (show (0 : Int) < 100 by omega)
  have mo1 := fun W => mod_any a1 200 W (by omega) (by omega) h1.1 h1.2
  have mo2 := fun W => mod_any a2 100 W (by omega) (by omega) h2.1 h2.2
  obtain ⟨P, hP⟩ : ∃ P, a1 % 200 = P := ⟨_, rfl⟩
  obtain ⟨r, hr⟩ : ∃ r, a2 % 100 = r := ⟨_, rfl⟩
  rw [hP] at mo1 hm1 hm2
  rw [hr] at mo2 hm3 hm4
  obtain ⟨Q, hQ⟩ : ∃ Q, P + r = Q := ⟨_, rfl⟩
  have hw : IntKind.i64.wrap (P + r) = Q := by rw [← hQ, IntKind.wrap_i64]; omega
  have MO1 := Lib.hid mo1
  have MO2 := Lib.hid mo2
  have HT := Lib.hid (fun W (hW : Below w.heap.size w W) => hT.mono hW)
  have hQ1 : P ≤ Q := by omega
  have hQ2 : Q < 300 := by omega
  clear mo1 mo2 hP hr hQ hm3 hm4 h1 h2
  go_enter Tryd.func6, Tryd.ntmps6
  go_wp2_with fail
  have L := ((Lq.mk0 w).varQ (w.heap.size) (by simp) b0 a0 x0 len0 cap0 nen0 nap0)
  (try go_wp2_with fail)
  refine (awake9_any _ (hT.mono L.below)).mono ?_
  rintro e9 w1 ⟨rfl, be⟩
  replace L := L.step be
  clear be
  have c00 := L.b0.c30
  have c01 := L.b0.c31
  have c02 := L.b0.c32
  (try go_wp2_with fail)
  refine (millRat_any b0 z0 y0 8 a0 x0 len0 cap0 nen0 nap0 _ (h0.1.mono L.below) (h0.2.mono L.below) (by omega)).mono ?_
  rintro e9 w2 ⟨vx, ok, a, d, rfl, iq, la, ld, hv, be⟩
  clear c00 c01 c02
  replace L := (L.step be).q iq
  obtain ⟨A, c, B, i, rfl, _, _, _⟩ := iq.form
  clear be iq
  have hlt0 := L.b0.lt
  replace L := L.varQ w2.heap.size rfl (ng a) A B (zl a) c (len d) i
  cases ok
  · go_wp2_with fail
    go_ret
    exact ⟨rfl, L.below⟩
  · have hd0 : 0 < d := by obtain ⟨q, _, e1⟩ := hv rfl; rw [e1]; exact den_pos' q
    clear hv
    go_wp2_with fail
    refine (MO1.out _).mono ?_
    rintro e9 w' ⟨rfl, rfl⟩
    go_wp2_with fail
    refine (MO2.out _).mono ?_
    rintro e9 w' ⟨rfl, rfl⟩
    have x1 := fun v W h (hW : Below w.heap.size w W) => gfloorR_any a d Q v W h (by omega) (by omega) hd0 (by omega) (by omega) (HT.out W hW)
    have x3 := fun v W h (hW : Below w.heap.size w W) => gfloorR_any a d P v W h (by omega) (by omega) hd0 (by omega) (by omega) (HT.out W hW)
    have z1 := zl_cut a d hd0 Q
    have z2 := zl_cut a d hd0 P
    have t1 := cut_twice (Rat.divInt a (d : Int)) hQ1
    obtain ⟨C1, hC1⟩ : ∃ C, cutQ (Rat.divInt a (d : Int)) Q = C := ⟨_, rfl⟩
    obtain ⟨C, hC⟩ : ∃ C, cutQ (Rat.divInt a (d : Int)) P = C := ⟨_, rfl⟩
    rw [hC1] at x1 z1 t1
    rw [hC] at x3 z2 t1
    have pQ := perm_in (p := Q) (by omega) (by omega)
    have pP := perm_in (p := P) (by omega) (by omega)
    rw [(g_yes pQ C1).1, (g_yes pQ C1).2.1, (g_yes pQ C1).2.2] at x1
    rw [(g_yes pP C).1, (g_yes pP C).2.1, (g_yes pP C).2.2] at x3
    have o1 := mk_fits (m := C1) (e := -Q) (by omega) (by omega) (by omega)
    have o2 := mk_fits (m := C) (e := -P) (by omega) (by omega) (by omega)
    have d1 := dq_mk o1
    have d2 := dq_mk o2
    have y1 := zl_mk C1 (-Q)
    have y2 := zl_mk C (-P)
    have b1 := mkE_le (m := C1) (e := -Q) (K := 2000) (by omega) (by omega)
    have b2 := mkE_le (m := C) (e := -P) (K := 2000) (by omega) (by omega)
    rw [o1] at x1
    rw [o2] at x3
    generalize mkM C1 (-Q) = M1 at *
    generalize mkE C1 (-Q) = E1 at *
    obtain ⟨M2, hM2⟩ : ∃ M, mkM C (-P) = M := ⟨_, rfl⟩
    obtain ⟨E2, hE2⟩ : ∃ E, mkE C (-P) = E := ⟨_, rfl⟩
    rw [hM2, hE2] at x3 d2
    rw [hM2] at y2
    rw [hE2] at b2
    have x2 := fun v W h (hW : Below w.heap.size w W) => gfloor_any M1 E1 P v W h (by omega) (by omega) (by omega) (by omega) (HT.out W hW)
    rw [d1, t1, (g_yes pP C).1, (g_yes pP C).2.1, (g_yes pP C).2.2, o2, hM2, hE2] at x2
    have x4 := fun v W h (hW : Below w.heap.size w W) => gnear_any M2 E2 P v W h (by omega) (by omega) (by omega) (by omega) (HT.out W hW)
    rw [d2, near_self C P, (g_yes pP C).1, (g_yes pP C).2.1, (g_yes pP C).2.2, o2, hM2, hE2] at x4
    have s1 := fun v u W h1 h2 => same8_any M2 E2 M2 E2 v u W h1 h2
    rw [decide_eq_true (rfl : M2 = M2), decide_eq_true (rfl : E2 = E2), Bool.true_and] at s1
    have X1 := Lib.hid x1
    have X2 := Lib.hid x2
    have X3 := Lib.hid x3
    have X4 := Lib.hid x4
    have S1 := Lib.hid s1
    clear x1 x2 x3 x4 s1 z1 z2 t1 pQ pP o1 o2 d1 d2 y1 y2 b1 b2 hM2 hE2 hC hC1 hd0 la ld hT h0
    have c00 := L.b0.c30
    have c01 := L.b0.c31
    have c02 := L.b0.c32
    have c10 := L.tl.b0.c30
    have c11 := L.tl.b0.c31
    have c12 := L.tl.b0.c32
    go_wp2_with fail
    obtain ⟨g, hg⟩ : ∃ g, w2.heap.size = g := ⟨_, rfl⟩
    rw [hg] at L hlt0 c00 c01 c02 ⊢
    clear hg
    refine (X1.out _ _ (L.getQ (v := .agg #[.bool (ng a), .slice A (zl a) c, .slice B (len d) i]) (a := a) (d := d) (by simp)) L.below).mono ?_
    rintro e w3 ⟨vy, rfl, id, be⟩
    clear c00 c01 c02 c10 c11 c12
    obtain ⟨A3, c3, rfl, _, in9⟩ := id.form
    replace L := (L.step be).n in9
    clear be id in9
    replace L := L.varD w3.heap.size rfl (ng M1) A3 (zl M1) c3 E1
    have c00 := L.b0.c30
    have c01 := L.b0.c31
    have c02 := L.b0.c32
    have c10 := L.tl.b0.c30
    have c11 := L.tl.b0.c31
    have c12 := L.tl.b0.c32
    have c20 := L.tl.tl.b0.c30
    have c21 := L.tl.tl.b0.c31
    have c22 := L.tl.tl.b0.c32
    go_wp2_with fail
    obtain ⟨g3, hg⟩ : ∃ g, w3.heap.size = g := ⟨_, rfl⟩
    rw [hg] at L c00 c01 c02 ⊢
    clear hg
    refine (X2.out _ _ (isD_n (s := .slice A3 (zl M1) c3) (L.getN (by simp))) L.below).mono ?_
    rintro e w4 ⟨vy, rfl, id, be⟩
    clear c00 c01 c02 c10 c11 c12 c20 c21 c22
    obtain ⟨A4, c4, rfl, _, in9⟩ := id.form
    replace L := (L.step be).n in9
    clear be id in9
    replace L := L.varD w4.heap.size rfl (ng M2) A4 (zl M2) c4 E2
    have c00 := L.b0.c30
    have c01 := L.b0.c31
    have c02 := L.b0.c32
    have c10 := L.tl.b0.c30
    have c11 := L.tl.b0.c31
    have c12 := L.tl.b0.c32
    have c20 := L.tl.tl.b0.c30
    have c21 := L.tl.tl.b0.c31
    have c22 := L.tl.tl.b0.c32
    have c30 := L.tl.tl.tl.b0.c30
    have c31 := L.tl.tl.tl.b0.c31
    have c32 := L.tl.tl.tl.b0.c32
    go_wp2_with fail
    obtain ⟨g4, hg⟩ : ∃ g, w4.heap.size = g := ⟨_, rfl⟩
    rw [hg] at L c00 c01 c02 ⊢
    clear hg
    refine (X3.out _ _ (L.getQ (v := .agg #[.bool (ng a), .slice A (zl a) c, .slice B (len d) i]) (a := a) (d := d) (by simp)) L.below).mono ?_
    rintro e w5 ⟨vy, rfl, id, be⟩
    clear c00 c01 c02 c10 c11 c12 c20 c21 c22 c30 c31 c32
    obtain ⟨A5, c5, rfl, _, in9⟩ := id.form
    replace L := (L.step be).n in9
    clear be id in9
    replace L := L.varD w5.heap.size rfl (ng M2) A5 (zl M2) c5 E2
    have c00 := L.b0.c30
    have c01 := L.b0.c31
    have c02 := L.b0.c32
    have c10 := L.tl.b0.c30
    have c11 := L.tl.b0.c31
    have c12 := L.tl.b0.c32
    have c20 := L.tl.tl.b0.c30
    have c21 := L.tl.tl.b0.c31
    have c22 := L.tl.tl.b0.c32
    have c30 := L.tl.tl.tl.b0.c30
    have c31 := L.tl.tl.tl.b0.c31
    have c32 := L.tl.tl.tl.b0.c32
    have c40 := L.tl.tl.tl.tl.b0.c30
    have c41 := L.tl.tl.tl.tl.b0.c31
    have c42 := L.tl.tl.tl.tl.b0.c32
    go_wp2_with fail
    obtain ⟨g5, hg⟩ : ∃ g, w5.heap.size = g := ⟨_, rfl⟩
    rw [hg] at L c00 c01 c02 ⊢
    clear hg
    refine (X4.out _ _ (isD_n (s := .slice A4 (zl M2) c4) (L.getN (by simp))) L.below).mono ?_
    rintro e w6 ⟨vy, rfl, id, be⟩
    clear c00 c01 c02 c10 c11 c12 c20 c21 c22 c30 c31 c32 c40 c41 c42
    obtain ⟨A6, c6, rfl, _, in9⟩ := id.form
    replace L := (L.step be).n in9
    clear be id in9
    replace L := L.varD w6.heap.size rfl (ng M2) A6 (zl M2) c6 E2
    have c00 := L.b0.c30
    have c01 := L.b0.c31
    have c02 := L.b0.c32
    have c10 := L.tl.b0.c30
    have c11 := L.tl.b0.c31
    have c12 := L.tl.b0.c32
    have c20 := L.tl.tl.b0.c30
    have c21 := L.tl.tl.b0.c31
    have c22 := L.tl.tl.b0.c32
    have c30 := L.tl.tl.tl.b0.c30
    have c31 := L.tl.tl.tl.b0.c31
    have c32 := L.tl.tl.tl.b0.c32
    have c40 := L.tl.tl.tl.tl.b0.c30
    have c41 := L.tl.tl.tl.tl.b0.c31
    have c42 := L.tl.tl.tl.tl.b0.c32
    have c50 := L.tl.tl.tl.tl.tl.b0.c30
    have c51 := L.tl.tl.tl.tl.tl.b0.c31
    have c52 := L.tl.tl.tl.tl.tl.b0.c32
    go_wp2_with fail
    obtain ⟨g6, hg⟩ : ∃ g, w6.heap.size = g := ⟨_, rfl⟩
    rw [hg] at L c00 c01 c02 ⊢
    clear hg
    refine (S1.out _ _ _ (isD_n (s := .slice A4 (zl M2) c4) (L.getN (by simp))) (isD_n (s := .slice A5 (zl M2) c5) (L.getN (by simp)))).mono ?_
    rintro e w7 ⟨rfl, be⟩
    clear c00 c01 c02 c10 c11 c12 c20 c21 c22 c30 c31 c32 c40 c41 c42 c50 c51 c52
    replace L := L.step be
    clear be
    have c00 := L.b0.c30
    have c01 := L.b0.c31
    have c02 := L.b0.c32
    have c10 := L.tl.b0.c30
    have c11 := L.tl.b0.c31
    have c12 := L.tl.b0.c32
    have c20 := L.tl.tl.b0.c30
    have c21 := L.tl.tl.b0.c31
    have c22 := L.tl.tl.b0.c32
    have c30 := L.tl.tl.tl.b0.c30
    have c31 := L.tl.tl.tl.b0.c31
    have c32 := L.tl.tl.tl.b0.c32
    have c40 := L.tl.tl.tl.tl.b0.c30
    have c41 := L.tl.tl.tl.tl.b0.c31
    have c42 := L.tl.tl.tl.tl.b0.c32
    have c50 := L.tl.tl.tl.tl.tl.b0.c30
    have c51 := L.tl.tl.tl.tl.tl.b0.c31
    have c52 := L.tl.tl.tl.tl.tl.b0.c32
    go_wp2_with fail
    refine (S1.out _ _ _ (isD_n (s := .slice A6 (zl M2) c6) (L.getN (by simp))) (isD_n (s := .slice A4 (zl M2) c4) (L.getN (by simp)))).mono ?_
    rintro e w8 ⟨rfl, be⟩
    clear c00 c01 c02 c10 c11 c12 c20 c21 c22 c30 c31 c32 c40 c41 c42 c50 c51 c52
    replace L := L.step be
    clear be
    have c00 := L.b0.c30
    have c01 := L.b0.c31
    have c02 := L.b0.c32
    have c10 := L.tl.b0.c30
    have c11 := L.tl.b0.c31
    have c12 := L.tl.b0.c32
    have c20 := L.tl.tl.b0.c30
    have c21 := L.tl.tl.b0.c31
    have c22 := L.tl.tl.b0.c32
    have c30 := L.tl.tl.tl.b0.c30
    have c31 := L.tl.tl.tl.b0.c31
    have c32 := L.tl.tl.tl.b0.c32
    have c40 := L.tl.tl.tl.tl.b0.c30
    have c41 := L.tl.tl.tl.tl.b0.c31
    have c42 := L.tl.tl.tl.tl.b0.c32
    have c50 := L.tl.tl.tl.tl.tl.b0.c30
    have c51 := L.tl.tl.tl.tl.tl.b0.c31
    have c52 := L.tl.tl.tl.tl.tl.b0.c32
    go_wp2_with fail
    go_ret
    exact ⟨rfl, L.below⟩

end Go.Proofs.YtgjljalcgiddgaaDoor
