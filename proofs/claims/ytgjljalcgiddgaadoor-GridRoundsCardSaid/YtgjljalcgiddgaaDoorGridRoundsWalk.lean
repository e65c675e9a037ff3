/- The walk of GridRounds: whatever the input, the law returns true and turns nothing that was there. -/
import Derived.Test.YtgjljalcgiddgaaDoorAwake9
import Derived.Test.YtgjljalcgiddgaaDoorGrPrec
import Derived.Test.YtgjljalcgiddgaaDoorBaseE
import Derived.Test.YtgjljalcgiddgaaDoorBaseM
import Derived.Deep.RegionHeld3
import Derived.Deep.DrawnRows
namespace Go.Proofs.YtgjljalcgiddgaaDoor
open Go.RowKit
set_option linter.unusedVariables false
set_option linter.unusedSimpArgs false
set_option maxRecDepth 100000
attribute [local go_sem ↓] Go.wp_at_zero Go.wp_at_succ

set_option maxHeartbeats 8000000 in
theorem walk_GridRounds (b0 : Bool) (a0 : Option Addr) (len0 cap0 : Nat) (z0 : List Nat) (f0 : Int) (a1 : Int) (w : World) (h0 : Sl w a0 len0 cap0 z0) (u0 : -9223372036854775808 ≤ f0) (t0 : f0 ≤ 9223372036854775807) (h1 : -9223372036854775808 ≤ a1 ∧ a1 ≤ 9223372036854775807) (hT : Tab w) :
    Calls Tryd.prog 3 #[.agg #[.bool b0, .slice a0 len0 cap0, .int .i64 f0], .int .i64 a1] w (fun e w' => e = .returned (.bool true) ∧ Below w.heap.size w w') := by
  go_enter Tryd.func3, Tryd.ntmps3
  go_wp2_with fail
  have L := ((Lq.mk0 w).varD (w.heap.size) (by simp) b0 a0 len0 cap0 f0)
  (try go_wp2_with fail)
  refine (awake9_any _ (hT.mono L.below)).mono ?_
  rintro e9 w1 ⟨rfl, be⟩
  replace L := L.step be
  clear be
  have c00 := L.b0.c30
  have c01 := L.b0.c31
  have c02 := L.b0.c32
  (try go_wp2_with fail)
  refine (millD_any b0 z0 8 300 a0 len0 cap0 f0 _ (h0.mono L.below) (by omega) (by omega) u0 t0).mono ?_
  rintro e9 w2 ⟨vx, ok, m, e, rfl, ix, lm, he1, he2, hv, be⟩
  clear c00 c01 c02
  obtain ⟨A, c, rfl, izx, inx⟩ := ix.form
  replace L := ((L.step be).n inx).z izx
  clear be ix izx inx
  have hlt0 := L.b0.lt
  replace L := L.varD w2.heap.size rfl (ng m) A (zl m) c e
  cases ok
  · go_wp2_with fail
    go_ret
    exact ⟨rfl, L.below⟩
  · have HV := Lib.hid (hv rfl)
    clear hv
    clear HV
    go_wp2_with fail
    obtain ⟨g, hg⟩ : ∃ g, w2.heap.size = g := ⟨_, rfl⟩
    rw [hg] at L hlt0 ⊢
    clear hg
    refine (prec_any a1 _ h1.1 h1.2).mono ?_
    rintro e w3 ⟨gs, N0, N1, N2, N3, N4, rfl, hgs, hrow, hNN, be⟩
    replace L := L.step be
    clear be
    go_wp2_with fail
    have HCE := Lib.hid (fun (wr : World) (hW : Below w3.heap.size w3 wr) (t : Nat) (ht : t < 5) => (show ∃ N : Int, wr.cell? ⟨gs, t, none⟩ = some (.int .i64 N) ∧ -9223372036854775808 ≤ N ∧ N ≤ 9223372036854775807 from prec_cell (by rw [hW.block gs (row_lt hrow)]; exact hrow) hNN t ht))
    have GX := Lib.hid (fun (wr : World) (hW : Below w3.heap.size w3 wr) => (L.getN (v := .slice A (zl m) c) (x := m.natAbs) (by simp)).mono hW)
    have VX := Lib.hid (fun (wr : World) (hW : Below w3.heap.size w3 wr) => L.b0.mono hW)
    have hwV := L.below.size
    have hWW := Lib.hid (fun (wr : World) (hW : Below w3.heap.size w3 wr) => L.below.trans (hW.mono hwV))
    clear hrow hNN hgs L
    go_loopw [33] (fun i wr => ∃ t : Nat, i = .int .i64 (t : Int) ∧ t ≤ 5 ∧ Below w3.heap.size w3 wr) (fun i _ => 5 - (intOf i).toNat)
    case atStart => exact ⟨0, rfl, by omega, Below.refl _ _⟩
    case round =>
      obtain ⟨t, rfl, ht, hbe⟩ := hrel
      have hbs := hbe.size
      have L : Lq wr wr [(.slice A (zl m) c, m.natAbs)] [] [] [(g, 26, #[.bool (ng m), .slice A (zl m) c, .int .i64 e])] := ((Lq.mk0 wr).n (GX.out wr hbe)).b (VX.out wr hbe)
      have HW0 := Lib.hid (fun W (hW : Below wr.heap.size wr W) => (hWW.out wr hbe).trans (hW.mono (hWW.out wr hbe).size))
      rcases Nat.eq_or_lt_of_le ht with rfl | ht3
      · go_wp2_with fail
        go_ret
        exact ⟨rfl, HW0.out _ L.below⟩
      · obtain ⟨N, hN, hNa, hNb⟩ := HCE.out wr hbe t ht3
        have hlt : (t : Int) < 5 := by omega
        have ht0 : (0 : Int) ≤ (t : Int) := by omega
        have p1 := fun v W h (hW : Below wr.heap.size wr W) => gfloor_any m e N v W h (by omega) (by omega) hNa hNb (hT.mono (HW0.out W hW))
        have p2 := fun v W h (hW : Below wr.heap.size wr W) => gceil_any m e N v W h (by omega) (by omega) hNa hNb (hT.mono (HW0.out W hW))
        have p3 := fun v W h (hW : Below wr.heap.size wr W) => gnear_any m e N v W h (by omega) (by omega) hNa hNb (hT.mono (HW0.out W hW))
        have r1 := fun v W h => rfloor9_any m e N v W h (by omega) (by omega) hNa hNb
        have r2 := fun v W h => rceil9_any m e N v W h (by omega) (by omega) hNa hNb
        have r3 := fun v W h => rnear9_any m e N v W h (by omega) (by omega) hNa hNb
        have s1 := fun v u W h1 h2 => same8_any (gM (cutQ (dq m e) N) N) (gE (cutQ (dq m e) N) N) (gM (cutQ (dq m e) N) N) (gE (cutQ (dq m e) N) N) v u W h1 h2
        rw [decide_eq_true (rfl : gM (cutQ (dq m e) N) N = gM (cutQ (dq m e) N) N), decide_eq_true (rfl : gE (cutQ (dq m e) N) N = gE (cutQ (dq m e) N) N), Bool.true_and] at s1
        generalize gM (cutQ (dq m e) N) N = M1 at *
        generalize gE (cutQ (dq m e) N) N = E1 at *
        generalize gR (cutQ (dq m e) N) N = R1 at *
        have S1 := Lib.hid s1
        have hR1 : (R1 != R1) = false := by simp
        clear s1
        have s2 := fun v u W h1 h2 => same8_any (gM (-(cutQ (-(dq m e)) N)) N) (gE (-(cutQ (-(dq m e)) N)) N) (gM (-(cutQ (-(dq m e)) N)) N) (gE (-(cutQ (-(dq m e)) N)) N) v u W h1 h2
        rw [decide_eq_true (rfl : gM (-(cutQ (-(dq m e)) N)) N = gM (-(cutQ (-(dq m e)) N)) N), decide_eq_true (rfl : gE (-(cutQ (-(dq m e)) N)) N = gE (-(cutQ (-(dq m e)) N)) N), Bool.true_and] at s2
        generalize gM (-(cutQ (-(dq m e)) N)) N = M2 at *
        generalize gE (-(cutQ (-(dq m e)) N)) N = E2 at *
        generalize gR (-(cutQ (-(dq m e)) N)) N = R2 at *
        have S2 := Lib.hid s2
        have hR2 : (R2 != R2) = false := by simp
        clear s2
        have s3 := fun v u W h1 h2 => same8_any (gM ((cutQ (dq m e) (N + 1) + 1) / 2) N) (gE ((cutQ (dq m e) (N + 1) + 1) / 2) N) (gM ((cutQ (dq m e) (N + 1) + 1) / 2) N) (gE ((cutQ (dq m e) (N + 1) + 1) / 2) N) v u W h1 h2
        rw [decide_eq_true (rfl : gM ((cutQ (dq m e) (N + 1) + 1) / 2) N = gM ((cutQ (dq m e) (N + 1) + 1) / 2) N), decide_eq_true (rfl : gE ((cutQ (dq m e) (N + 1) + 1) / 2) N = gE ((cutQ (dq m e) (N + 1) + 1) / 2) N), Bool.true_and] at s3
        generalize gM ((cutQ (dq m e) (N + 1) + 1) / 2) N = M3 at *
        generalize gE ((cutQ (dq m e) (N + 1) + 1) / 2) N = E3 at *
        generalize gR ((cutQ (dq m e) (N + 1) + 1) / 2) N = R3 at *
        have S3 := Lib.hid s3
        have hR3 : (R3 != R3) = false := by simp
        clear s3
        have F1 := Lib.hid p1
        have F2 := Lib.hid p2
        have F3 := Lib.hid p3
        have G1 := Lib.hid r1
        have G2 := Lib.hid r2
        have G3 := Lib.hid r3
        clear p1 p2 p3 r1 r2 r3
        have c00 := L.b0.c30
        have c01 := L.b0.c31
        have c02 := L.b0.c32
        go_wp2_with fail
        refine (F1.out _ _ (isD_n (s := .slice A (zl m) c) (L.getN (by simp))) L.below).mono ?_
        rintro e w31 ⟨vy, rfl, id, be⟩
        clear c00 c01 c02
        obtain ⟨A3, c3, rfl, _, in9⟩ := id.form
        replace L := (L.step be).n in9
        clear be id in9
        replace L := L.varD w31.heap.size rfl (ng M1) A3 (zl M1) c3 E1
        have c00 := L.b0.c30
        have c01 := L.b0.c31
        have c02 := L.b0.c32
        have c10 := L.tl.b0.c30
        have c11 := L.tl.b0.c31
        have c12 := L.tl.b0.c32
        go_wp2_with fail
        obtain ⟨g3, hg⟩ : ∃ g, w31.heap.size = g := ⟨_, rfl⟩
        rw [hg] at L c00 c01 c02 ⊢
        clear hg
        refine (F2.out _ _ (isD_n (s := .slice A (zl m) c) (L.getN (by simp))) L.below).mono ?_
        rintro e w32 ⟨vy, rfl, id, be⟩
        clear c00 c01 c02 c10 c11 c12
        obtain ⟨A4, c4, rfl, _, in9⟩ := id.form
        replace L := (L.step be).n in9
        clear be id in9
        replace L := L.varD w32.heap.size rfl (ng M2) A4 (zl M2) c4 E2
        have c00 := L.b0.c30
        have c01 := L.b0.c31
        have c02 := L.b0.c32
        have c10 := L.tl.b0.c30
        have c11 := L.tl.b0.c31
        have c12 := L.tl.b0.c32
        have c20 := L.tl.tl.b0.c30
        have c21 := L.tl.tl.b0.c31
        have c22 := L.tl.tl.b0.c32
        go_wp2_with fail
        obtain ⟨g4, hg⟩ : ∃ g, w32.heap.size = g := ⟨_, rfl⟩
        rw [hg] at L c00 c01 c02 ⊢
        clear hg
        refine (F3.out _ _ (isD_n (s := .slice A (zl m) c) (L.getN (by simp))) L.below).mono ?_
        rintro e w33 ⟨vy, rfl, id, be⟩
        clear c00 c01 c02 c10 c11 c12 c20 c21 c22
        obtain ⟨A5, c5, rfl, _, in9⟩ := id.form
        replace L := (L.step be).n in9
        clear be id in9
        replace L := L.varD w33.heap.size rfl (ng M3) A5 (zl M3) c5 E3
        have c00 := L.b0.c30
        have c01 := L.b0.c31
        have c02 := L.b0.c32
        have c10 := L.tl.b0.c30
        have c11 := L.tl.b0.c31
        have c12 := L.tl.b0.c32
        have c20 := L.tl.tl.b0.c30
        have c21 := L.tl.tl.b0.c31
        have c22 := L.tl.tl.b0.c32
        have c30 := L.tl.tl.tl.b0.c30
        have c31 := L.tl.tl.tl.b0.c31
        have c32 := L.tl.tl.tl.b0.c32
        go_wp2_with fail
        obtain ⟨g5, hg⟩ : ∃ g, w33.heap.size = g := ⟨_, rfl⟩
        rw [hg] at L c00 c01 c02 ⊢
        clear hg
        refine (G1.out _ _ (isD_n (s := .slice A (zl m) c) (L.getN (by simp)))).mono ?_
        rintro e w34 ⟨vy, rfl, id, be⟩
        clear c00 c01 c02 c10 c11 c12 c20 c21 c22 c30 c31 c32
        obtain ⟨A6, c6, rfl, _, in9⟩ := id.form
        replace L := (L.step be).n in9
        clear be id in9
        replace L := L.varD w34.heap.size rfl (ng M1) A6 (zl M1) c6 E1
        have c00 := L.b0.c30
        have c01 := L.b0.c31
        have c02 := L.b0.c32
        have c10 := L.tl.b0.c30
        have c11 := L.tl.b0.c31
        have c12 := L.tl.b0.c32
        have c20 := L.tl.tl.b0.c30
        have c21 := L.tl.tl.b0.c31
        have c22 := L.tl.tl.b0.c32
        have c30 := L.tl.tl.tl.b0.c30
        have c31 := L.tl.tl.tl.b0.c31
        have c32 := L.tl.tl.tl.b0.c32
        have c40 := L.tl.tl.tl.tl.b0.c30
        have c41 := L.tl.tl.tl.tl.b0.c31
        have c42 := L.tl.tl.tl.tl.b0.c32
        go_wp2_with fail
        obtain ⟨g6, hg⟩ : ∃ g, w34.heap.size = g := ⟨_, rfl⟩
        rw [hg] at L c00 c01 c02 ⊢
        clear hg
        refine (G2.out _ _ (isD_n (s := .slice A (zl m) c) (L.getN (by simp)))).mono ?_
        rintro e w35 ⟨vy, rfl, id, be⟩
        clear c00 c01 c02 c10 c11 c12 c20 c21 c22 c30 c31 c32 c40 c41 c42
        obtain ⟨A7, c7, rfl, _, in9⟩ := id.form
        replace L := (L.step be).n in9
        clear be id in9
        replace L := L.varD w35.heap.size rfl (ng M2) A7 (zl M2) c7 E2
        have c00 := L.b0.c30
        have c01 := L.b0.c31
        have c02 := L.b0.c32
        have c10 := L.tl.b0.c30
        have c11 := L.tl.b0.c31
        have c12 := L.tl.b0.c32
        have c20 := L.tl.tl.b0.c30
        have c21 := L.tl.tl.b0.c31
        have c22 := L.tl.tl.b0.c32
        have c30 := L.tl.tl.tl.b0.c30
        have c31 := L.tl.tl.tl.b0.c31
        have c32 := L.tl.tl.tl.b0.c32
        have c40 := L.tl.tl.tl.tl.b0.c30
        have c41 := L.tl.tl.tl.tl.b0.c31
        have c42 := L.tl.tl.tl.tl.b0.c32
        have c50 := L.tl.tl.tl.tl.tl.b0.c30
        have c51 := L.tl.tl.tl.tl.tl.b0.c31
        have c52 := L.tl.tl.tl.tl.tl.b0.c32
        go_wp2_with fail
        obtain ⟨g7, hg⟩ : ∃ g, w35.heap.size = g := ⟨_, rfl⟩
        rw [hg] at L c00 c01 c02 ⊢
        clear hg
        refine (G3.out _ _ (isD_n (s := .slice A (zl m) c) (L.getN (by simp)))).mono ?_
        rintro e w36 ⟨vy, rfl, id, be⟩
        clear c00 c01 c02 c10 c11 c12 c20 c21 c22 c30 c31 c32 c40 c41 c42 c50 c51 c52
        obtain ⟨A8, c8, rfl, _, in9⟩ := id.form
        replace L := (L.step be).n in9
        clear be id in9
        replace L := L.varD w36.heap.size rfl (ng M3) A8 (zl M3) c8 E3
        have c00 := L.b0.c30
        have c01 := L.b0.c31
        have c02 := L.b0.c32
        have c10 := L.tl.b0.c30
        have c11 := L.tl.b0.c31
        have c12 := L.tl.b0.c32
        have c20 := L.tl.tl.b0.c30
        have c21 := L.tl.tl.b0.c31
        have c22 := L.tl.tl.b0.c32
        have c30 := L.tl.tl.tl.b0.c30
        have c31 := L.tl.tl.tl.b0.c31
        have c32 := L.tl.tl.tl.b0.c32
        have c40 := L.tl.tl.tl.tl.b0.c30
        have c41 := L.tl.tl.tl.tl.b0.c31
        have c42 := L.tl.tl.tl.tl.b0.c32
        have c50 := L.tl.tl.tl.tl.tl.b0.c30
        have c51 := L.tl.tl.tl.tl.tl.b0.c31
        have c52 := L.tl.tl.tl.tl.tl.b0.c32
        have c60 := L.tl.tl.tl.tl.tl.tl.b0.c30
        have c61 := L.tl.tl.tl.tl.tl.tl.b0.c31
        have c62 := L.tl.tl.tl.tl.tl.tl.b0.c32
        go_wp2_with fail
        obtain ⟨g8, hg⟩ : ∃ g, w36.heap.size = g := ⟨_, rfl⟩
        rw [hg] at L c00 c01 c02 ⊢
        clear hg
        refine (S1.out _ _ _ (isD_n (s := .slice A3 (zl M1) c3) (L.getN (by simp))) (isD_n (s := .slice A6 (zl M1) c6) (L.getN (by simp)))).mono ?_
        rintro e w37 ⟨rfl, be⟩
        clear c00 c01 c02 c10 c11 c12 c20 c21 c22 c30 c31 c32 c40 c41 c42 c50 c51 c52 c60 c61 c62
        replace L := L.step be
        clear be
        have c00 := L.b0.c30
        have c01 := L.b0.c31
        have c02 := L.b0.c32
        have c10 := L.tl.b0.c30
        have c11 := L.tl.b0.c31
        have c12 := L.tl.b0.c32
        have c20 := L.tl.tl.b0.c30
        have c21 := L.tl.tl.b0.c31
        have c22 := L.tl.tl.b0.c32
        have c30 := L.tl.tl.tl.b0.c30
        have c31 := L.tl.tl.tl.b0.c31
        have c32 := L.tl.tl.tl.b0.c32
        have c40 := L.tl.tl.tl.tl.b0.c30
        have c41 := L.tl.tl.tl.tl.b0.c31
        have c42 := L.tl.tl.tl.tl.b0.c32
        have c50 := L.tl.tl.tl.tl.tl.b0.c30
        have c51 := L.tl.tl.tl.tl.tl.b0.c31
        have c52 := L.tl.tl.tl.tl.tl.b0.c32
        have c60 := L.tl.tl.tl.tl.tl.tl.b0.c30
        have c61 := L.tl.tl.tl.tl.tl.tl.b0.c31
        have c62 := L.tl.tl.tl.tl.tl.tl.b0.c32
        go_wp2_with fail
        refine (S2.out _ _ _ (isD_n (s := .slice A4 (zl M2) c4) (L.getN (by simp))) (isD_n (s := .slice A7 (zl M2) c7) (L.getN (by simp)))).mono ?_
        rintro e w38 ⟨rfl, be⟩
        clear c00 c01 c02 c10 c11 c12 c20 c21 c22 c30 c31 c32 c40 c41 c42 c50 c51 c52 c60 c61 c62
        replace L := L.step be
        clear be
        have c00 := L.b0.c30
        have c01 := L.b0.c31
        have c02 := L.b0.c32
        have c10 := L.tl.b0.c30
        have c11 := L.tl.b0.c31
        have c12 := L.tl.b0.c32
        have c20 := L.tl.tl.b0.c30
        have c21 := L.tl.tl.b0.c31
        have c22 := L.tl.tl.b0.c32
        have c30 := L.tl.tl.tl.b0.c30
        have c31 := L.tl.tl.tl.b0.c31
        have c32 := L.tl.tl.tl.b0.c32
        have c40 := L.tl.tl.tl.tl.b0.c30
        have c41 := L.tl.tl.tl.tl.b0.c31
        have c42 := L.tl.tl.tl.tl.b0.c32
        have c50 := L.tl.tl.tl.tl.tl.b0.c30
        have c51 := L.tl.tl.tl.tl.tl.b0.c31
        have c52 := L.tl.tl.tl.tl.tl.b0.c32
        have c60 := L.tl.tl.tl.tl.tl.tl.b0.c30
        have c61 := L.tl.tl.tl.tl.tl.tl.b0.c31
        have c62 := L.tl.tl.tl.tl.tl.tl.b0.c32
        go_wp2_with fail
        refine (S3.out _ _ _ (isD_n (s := .slice A5 (zl M3) c5) (L.getN (by simp))) (isD_n (s := .slice A8 (zl M3) c8) (L.getN (by simp)))).mono ?_
        rintro e w39 ⟨rfl, be⟩
        clear c00 c01 c02 c10 c11 c12 c20 c21 c22 c30 c31 c32 c40 c41 c42 c50 c51 c52 c60 c61 c62
        replace L := L.step be
        clear be
        have c00 := L.b0.c30
        have c01 := L.b0.c31
        have c02 := L.b0.c32
        have c10 := L.tl.b0.c30
        have c11 := L.tl.b0.c31
        have c12 := L.tl.b0.c32
        have c20 := L.tl.tl.b0.c30
        have c21 := L.tl.tl.b0.c31
        have c22 := L.tl.tl.b0.c32
        have c30 := L.tl.tl.tl.b0.c30
        have c31 := L.tl.tl.tl.b0.c31
        have c32 := L.tl.tl.tl.b0.c32
        have c40 := L.tl.tl.tl.tl.b0.c30
        have c41 := L.tl.tl.tl.tl.b0.c31
        have c42 := L.tl.tl.tl.tl.b0.c32
        have c50 := L.tl.tl.tl.tl.tl.b0.c30
        have c51 := L.tl.tl.tl.tl.tl.b0.c31
        have c52 := L.tl.tl.tl.tl.tl.b0.c32
        have c60 := L.tl.tl.tl.tl.tl.tl.b0.c30
        have c61 := L.tl.tl.tl.tl.tl.tl.b0.c31
        have c62 := L.tl.tl.tl.tl.tl.tl.b0.c32
        go_wp2_with fail
        go_roundw
        case rel => exact ⟨t + 1, by go_num, by omega, hbe.trans (L.below.mono hbs)⟩
        case measure => simp [intOf]; omega

end Go.Proofs.YtgjljalcgiddgaaDoor
