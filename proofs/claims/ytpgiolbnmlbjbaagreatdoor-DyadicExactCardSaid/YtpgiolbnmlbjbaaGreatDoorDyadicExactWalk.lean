/- The walk of DyadicExact: whatever the input, the law returns true and turns nothing that was there. -/
import Derived.Test.YtpgiolbnmlbjbaaGreatDoorAwake8
import Derived.Test.YtpgiolbnmlbjbaaGreatDoorMillTwoD
import Derived.Test.YtpgiolbnmlbjbaaGreatDoorDyPC
import Derived.Test.YtpgiolbnmlbjbaaGreatDoorDyLaw
import Derived.Test.YtpgiolbnmlbjbaaGreatDoorDyPD
import Derived.Test.YtpgiolbnmlbjbaaGreatDoorRatTwo
import Derived.Test.YtpgiolbnmlbjbaaGreatDoorRefDyE
import Derived.Test.YtpgiolbnmlbjbaaGreatDoorRefRatB
import Derived.Test.YtpgiolbnmlbjbaaGreatDoorRefRatC
import Derived.Deep.RegionHeld3
import Derived.Deep.DrawnRows
import Derived.Deep.Cut
import Derived.Deep.CutRange
namespace Go.Proofs.YtpgiolbnmlbjbaaGreatDoor
open Go.RowKit
set_option linter.unusedVariables false
set_option linter.unusedSimpArgs false
set_option maxRecDepth 100000
attribute [local go_sem ↓] Go.wp_at_zero Go.wp_at_succ

theorem two_int (j : Nat) : ((2 ^ j : Nat) : Int) ≠ 0 := two_ne j
theorem q_add (m e n k : Int) : Rat.divInt (m * 2 ^ e.toNat * ((2 ^ (-k).toNat : Nat) : Int) + n * 2 ^ k.toNat * ((2 ^ (-e).toNat : Nat) : Int)) (((2 ^ (-e).toNat : Nat) : Int) * ((2 ^ (-k).toNat : Nat) : Int)) = dq m e + dq n k := by
  unfold dq
  rw [Rat.divInt_add_divInt _ _ (two_int _) (two_int _)]
theorem q_sub (m e n k : Int) : Rat.divInt (m * 2 ^ e.toNat * ((2 ^ (-k).toNat : Nat) : Int) + -(n * 2 ^ k.toNat) * ((2 ^ (-e).toNat : Nat) : Int)) (((2 ^ (-e).toNat : Nat) : Int) * ((2 ^ (-k).toNat : Nat) : Int)) = dq m e + dq (-n) k := by
  rw [← Int.neg_mul]
  exact q_add m e (-n) k
theorem q_mul (m e n k : Int) : Rat.divInt (m * 2 ^ e.toNat * (n * 2 ^ k.toNat)) (((2 ^ (-e).toNat : Nat) : Int) * ((2 ^ (-k).toNat : Nat) : Int)) = dq m e * dq n k := by
  unfold dq
  rw [Rat.divInt_mul_divInt]
theorem dv_valid {m e : Int} (h : Dv m e) : (if m = 0 then decide (e = 0) else fits8 m e) = true := by
  rcases h with ⟨h1, h2⟩ | ⟨h1, h2⟩
  · rw [if_pos h1]; exact decide_eq_true h2
  · rw [if_neg h1]; exact h2

set_option maxHeartbeats 8000000 in
theorem walk_DyadicExact (b0 : Bool) (a0 : Option Addr) (len0 cap0 : Nat) (z0 : List Nat) (f0 : Int) (b1 : Bool) (a1 : Option Addr) (len1 cap1 : Nat) (z1 : List Nat) (f1 : Int) (w : World) (h0 : Sl w a0 len0 cap0 z0) (u0 : -9223372036854775808 ≤ f0) (t0 : f0 ≤ 9223372036854775807) (h1 : Sl w a1 len1 cap1 z1) (u1 : -9223372036854775808 ≤ f1) (t1 : f1 ≤ 9223372036854775807) (hT : Tab w) (hP : Pow10 w) :
    Calls Tryz.prog 4 #[.agg #[.bool b0, .slice a0 len0 cap0, .int .i64 f0], .agg #[.bool b1, .slice a1 len1 cap1, .int .i64 f1]] w (fun e w' => e = .returned (.bool true) ∧ Below w.heap.size w w') := by
  go_enter Tryz.func4, Tryz.ntmps4
  go_wp2_with fail
  have L := (((Lq.mk0 w).varD (w.heap.size) (by simp) b0 a0 len0 cap0 f0).varD (w.heap.size + 1) (by simp) b1 a1 len1 cap1 f1)
  (try go_wp2_with fail)
  refine (awake8_any _ (hT.mono L.below) (hP.mono L.below)).mono ?_
  rintro e w1 ⟨rfl, be⟩
  replace L := L.step be
  clear be
  have c00 := L.b0.c30
  have c01 := L.b0.c31
  have c02 := L.b0.c32
  have c10 := L.tl.b0.c30
  have c11 := L.tl.b0.c31
  have c12 := L.tl.b0.c32
  go_wp2_with fail
  refine (two8_any b0 b1 z0 z1 a0 a1 len0 cap0 len1 cap1 f0 f1 _ (h0.mono L.below) (h1.mono L.below) u0 t0 u1 t1).mono ?_
  rintro e9 w2 ⟨vx, vy, ok, m, e, n, k, rfl, ix, iy, lm, ln, he1, he2, hk1, hk2, hv, be⟩
  clear c00 c01 c02 c10 c11 c12
  obtain ⟨A, c, rfl, izx, inx⟩ := ix.form
  obtain ⟨B, d, rfl, izy, iny⟩ := iy.form
  replace L := ((((L.step be).n iny).n inx).z izy).z izx
  clear be ix iy izx inx izy iny
  have hlt0 := L.b0.lt
  have hlt1 := L.tl.b0.lt
  replace L := (L.varD w2.heap.size rfl (ng m) A (zl m) c e).varD (w2.heap.size + 1) (by simp) (ng n) B (zl n) d k
  cases ok
  · go_wp2_with fail
    go_ret
    exact ⟨rfl, L.below⟩
  · have HV := Lib.hid (hv rfl)
    clear hv
    clear HV
    have hn := zl_neg n
    have ha := zl_addS m e n k 720 (by omega) (by omega)
    have hs := zl_addS m e (-n) k 720 (by omega) (by omega)
    have hm := zl_mul m n
    have o1 := mk_fits (m := addS m e n k) (e := min e k) (by omega) (by omega) (by omega)
    have o2 := mk_fits (m := addS m e (-n) k) (e := min e k) (by omega) (by omega) (by omega)
    have o3 := mk_fits (m := m * n) (e := e + k) (by omega) (by omega) (by omega)
    have v1 := mk_ok o1
    have v2 := mk_ok o2
    have v3 := mk_ok o3
    have y1 := (dq_mk o1).trans (dq_add m e n k)
    have y2 := (dq_mk o2).trans (dq_add m e (-n) k)
    have y3 := (dq_mk o3).trans (dq_mul m e n k)
    have z1 := zl_mk (addS m e n k) (min e k)
    have z2 := zl_mk (addS m e (-n) k) (min e k)
    have z3 := zl_mk (m * n) (e + k)
    have b1 := mkE_le (m := addS m e n k) (e := min e k) (K := 2000) (by omega) (by omega)
    have b2 := mkE_le (m := addS m e (-n) k) (e := min e k) (K := 2000) (by omega) (by omega)
    have b3 := mkE_le (m := m * n) (e := e + k) (K := 2000) (by omega) (by omega)
    have s1 := fun v u W h1 h2 (hW : Below w.heap.size w W) => dadd_any m e n k v u W h1 h2 (by omega) (by omega) (by omega) (by omega) (hT.mono hW)
    have s2 := fun v u W h1 h2 (hW : Below w.heap.size w W) => dsub_any m e n k v u W h1 h2 (by omega) (by omega) (by omega) (by omega) (hT.mono hW)
    have s3 := fun v u W h1 h2 (hW : Below w.heap.size w W) => dmul_any m e n k v u W h1 h2 (by omega) (by omega) (by omega) (by omega) (hT.mono hW)
    rw [o1] at s1
    rw [o2] at s2
    rw [o3] at s3
    clear o1 o2 o3
    generalize mkM (addS m e n k) (min e k) = M1 at *
    generalize mkE (addS m e n k) (min e k) = E1 at *
    generalize mkM (addS m e (-n) k) (min e k) = M2 at *
    generalize mkE (addS m e (-n) k) (min e k) = E2 at *
    generalize mkM (m * n) (e + k) = M3 at *
    generalize mkE (m * n) (e + k) = E3 at *
    have t1 := fun v W h => dvalid_d M1 E1 v W h (by omega)
    have t2 := fun v W h => dvalid_d M2 E2 v W h (by omega)
    have t3 := fun v W h => dvalid_d M3 E3 v W h (by omega)
    rw [dv_valid v1] at t1
    rw [dv_valid v2] at t2
    rw [dv_valid v3] at t3
    have q1 := fun v W h => drat_any M1 E1 v W h (by omega) (by omega)
    have q2 := fun v W h => drat_any M2 E2 v W h (by omega) (by omega)
    have q3 := fun v W h => drat_any M3 E3 v W h (by omega) (by omega)
    rw [← (dq_form v1).1, ← (dq_form v1).2, y1] at q1
    rw [← (dq_form v2).1, ← (dq_form v2).2, y2] at q2
    rw [← (dq_form v3).1, ← (dq_form v3).2, y3] at q3
    have l1 := zl_two m e.toNat
    have l2 := zl_two n k.toNat
    have l3 := len_two (-e).toNat
    have l4 := len_two (-k).toNat
    have r1 := fun v u W h1 h2 => radd7_any (m * 2 ^ e.toNat) (2 ^ (-e).toNat) (n * 2 ^ k.toNat) (2 ^ (-k).toNat) v u W h1 h2 (by omega) (by omega) (by omega) (by omega) (two_pos8 _) (two_pos8 _)
    have r2 := fun v u W h1 h2 => rsub7_any (m * 2 ^ e.toNat) (2 ^ (-e).toNat) (n * 2 ^ k.toNat) (2 ^ (-k).toNat) v u W h1 h2 (by omega) (by omega) (by omega) (by omega) (two_pos8 _) (two_pos8 _)
    have r3 := fun v u W h1 h2 => rmul7_any (m * 2 ^ e.toNat) (2 ^ (-e).toNat) (n * 2 ^ k.toNat) (2 ^ (-k).toNat) v u W h1 h2 (by omega) (by omega) (by omega) (by omega) (two_pos8 _) (two_pos8 _)
    rw [q_add] at r1
    rw [q_sub] at r2
    rw [q_mul] at r3
    unfold RetQ at r1 r2 r3
    have x1 := fun v W h => rrat8_any m e v W h (by omega) (by omega)
    have x2 := fun v W h => rrat8_any n k v W h (by omega) (by omega)
    have n1 := fun v W h => dneg_any m e v W h (by omega)
    have n2 := fun v W h => rneg8_any m e v W h (by omega)
    have s8 := fun v u W h1 h2 => same8_any (-m) e (-m) e v u W h1 h2
    rw [decide_eq_true (rfl : -m = -m), decide_eq_true (rfl : e = e), Bool.true_and] at s8
    clear hn ha hs hm v1 v2 v3 y1 y2 y3 z1 z2 z3 b1 b2 b3 l1 l2 l3 l4 lm ln he1 he2 hk1 hk2 hT hP h0 h1 u0 t0 u1 hlt0 hlt1
    generalize (dq m e + dq n k).num = sn at *
    generalize (dq m e + dq n k).den = sd at *
    generalize (dq m e + dq (-n) k).num = dn at *
    generalize (dq m e + dq (-n) k).den = dd' at *
    generalize (dq m e * dq n k).num = pn at *
    generalize (dq m e * dq n k).den = pd at *
    generalize m * 2 ^ e.toNat = an at *
    generalize n * 2 ^ k.toNat = bn at *
    generalize 2 ^ (-e).toNat = ad at *
    generalize 2 ^ (-k).toNat = bd at *
    generalize -m = na at *
    have H1 := Lib.hid s1
    have H2 := Lib.hid s2
    have H3 := Lib.hid s3
    have T1 := Lib.hid t1
    have T2 := Lib.hid t2
    have T3 := Lib.hid t3
    have Q1' := Lib.hid q1
    have Q2' := Lib.hid q2
    have Q3' := Lib.hid q3
    have R1 := Lib.hid r1
    have R2 := Lib.hid r2
    have R3 := Lib.hid r3
    have X1 := Lib.hid x1
    have X2 := Lib.hid x2
    have N1 := Lib.hid n1
    have N2 := Lib.hid n2
    have S8 := Lib.hid s8
    have S1 := Lib.hid (fun v u W h1 h2 => same7_yes sn sd v u W h1 h2)
    have S2 := Lib.hid (fun v u W h1 h2 => same7_yes dn dd' v u W h1 h2)
    have S3 := Lib.hid (fun v u W h1 h2 => same7_yes pn pd v u W h1 h2)
    clear s1 s2 s3 t2 t3 q1 q2 q3 r1 r2 r3 x1 x2 n1 n2 s8
    have c00 := L.b0.c30
    have c01 := L.b0.c31
    have c02 := L.b0.c32
    have c10 := L.tl.b0.c30
    have c11 := L.tl.b0.c31
    have c12 := L.tl.b0.c32
    have c20 := L.tl.tl.b0.c30
    have c21 := L.tl.tl.b0.c31
    have c22 := L.tl.tl.b0.c32
    have c30 := L.tl.tl.tl.b0.c30
    have c31 := L.tl.tl.tl.b0.c31
    have c32 := L.tl.tl.tl.b0.c32
    go_wp2_with fail
    obtain ⟨g, hg⟩ : ∃ g, w2.heap.size = g := ⟨_, rfl⟩
    rw [hg] at L c00 c01 c02 c10 c11 c12 ⊢
    clear hg
    refine (H1.out _ _ _ (isD_n (s := .slice A (zl m) c) (L.getN (by simp))) (isD_n (s := .slice B (zl n) d) (L.getN (by simp))) L.below).mono ?_
    rintro e w3 ⟨vy, rfl, id, be⟩
    clear c00 c01 c02 c10 c11 c12 c20 c21 c22 c30 c31 c32
    obtain ⟨A3, c3, rfl, _, in9⟩ := id.form
    replace L := (L.step be).n in9
    clear be id in9
    replace L := L.varD w3.heap.size rfl (ng M1) A3 (zl M1) c3 E1
    have c00 := L.b0.c30
    have c01 := L.b0.c31
    have c02 := L.b0.c32
    have c10 := L.tl.b0.c30
    have c11 := L.tl.b0.c31
    have c12 := L.tl.b0.c32
    have c20 := L.tl.tl.b0.c30
    have c21 := L.tl.tl.b0.c31
    have c22 := L.tl.tl.b0.c32
    have c30 := L.tl.tl.tl.b0.c30
    have c31 := L.tl.tl.tl.b0.c31
    have c32 := L.tl.tl.tl.b0.c32
    have c40 := L.tl.tl.tl.tl.b0.c30
    have c41 := L.tl.tl.tl.tl.b0.c31
    have c42 := L.tl.tl.tl.tl.b0.c32
    go_wp2_with fail
    obtain ⟨g3, hg⟩ : ∃ g, w3.heap.size = g := ⟨_, rfl⟩
    rw [hg] at L c00 c01 c02 ⊢
    clear hg
    refine (H2.out _ _ _ (isD_n (s := .slice A (zl m) c) (L.getN (by simp))) (isD_n (s := .slice B (zl n) d) (L.getN (by simp))) L.below).mono ?_
    rintro e w4 ⟨vy, rfl, id, be⟩
    clear c00 c01 c02 c10 c11 c12 c20 c21 c22 c30 c31 c32 c40 c41 c42
    obtain ⟨A4, c4, rfl, _, in9⟩ := id.form
    replace L := (L.step be).n in9
    clear be id in9
    replace L := L.varD w4.heap.size rfl (ng M2) A4 (zl M2) c4 E2
    have c00 := L.b0.c30
    have c01 := L.b0.c31
    have c02 := L.b0.c32
    have c10 := L.tl.b0.c30
    have c11 := L.tl.b0.c31
    have c12 := L.tl.b0.c32
    have c20 := L.tl.tl.b0.c30
    have c21 := L.tl.tl.b0.c31
    have c22 := L.tl.tl.b0.c32
    have c30 := L.tl.tl.tl.b0.c30
    have c31 := L.tl.tl.tl.b0.c31
    have c32 := L.tl.tl.tl.b0.c32
    have c40 := L.tl.tl.tl.tl.b0.c30
    have c41 := L.tl.tl.tl.tl.b0.c31
    have c42 := L.tl.tl.tl.tl.b0.c32
    have c50 := L.tl.tl.tl.tl.tl.b0.c30
    have c51 := L.tl.tl.tl.tl.tl.b0.c31
    have c52 := L.tl.tl.tl.tl.tl.b0.c32
    go_wp2_with fail
    obtain ⟨g4, hg⟩ : ∃ g, w4.heap.size = g := ⟨_, rfl⟩
    rw [hg] at L c00 c01 c02 ⊢
    clear hg
    refine (H3.out _ _ _ (isD_n (s := .slice A (zl m) c) (L.getN (by simp))) (isD_n (s := .slice B (zl n) d) (L.getN (by simp))) L.below).mono ?_
    rintro e w5 ⟨vy, rfl, id, be⟩
    clear c00 c01 c02 c10 c11 c12 c20 c21 c22 c30 c31 c32 c40 c41 c42 c50 c51 c52
    obtain ⟨A5, c5, rfl, _, in9⟩ := id.form
    replace L := (L.step be).n in9
    clear be id in9
    replace L := L.varD w5.heap.size rfl (ng M3) A5 (zl M3) c5 E3
    have c00 := L.b0.c30
    have c01 := L.b0.c31
    have c02 := L.b0.c32
    have c10 := L.tl.b0.c30
    have c11 := L.tl.b0.c31
    have c12 := L.tl.b0.c32
    have c20 := L.tl.tl.b0.c30
    have c21 := L.tl.tl.b0.c31
    have c22 := L.tl.tl.b0.c32
    have c30 := L.tl.tl.tl.b0.c30
    have c31 := L.tl.tl.tl.b0.c31
    have c32 := L.tl.tl.tl.b0.c32
    have c40 := L.tl.tl.tl.tl.b0.c30
    have c41 := L.tl.tl.tl.tl.b0.c31
    have c42 := L.tl.tl.tl.tl.b0.c32
    have c50 := L.tl.tl.tl.tl.tl.b0.c30
    have c51 := L.tl.tl.tl.tl.tl.b0.c31
    have c52 := L.tl.tl.tl.tl.tl.b0.c32
    have c60 := L.tl.tl.tl.tl.tl.tl.b0.c30
    have c61 := L.tl.tl.tl.tl.tl.tl.b0.c31
    have c62 := L.tl.tl.tl.tl.tl.tl.b0.c32
    go_wp2_with fail
    obtain ⟨g5, hg⟩ : ∃ g, w5.heap.size = g := ⟨_, rfl⟩
    rw [hg] at L c00 c01 c02 ⊢
    clear hg
    refine (T1.out _ _ (isD_n (s := .slice A3 (zl M1) c3) (L.getN (by simp)))).mono ?_
    rintro e w6 ⟨rfl, be⟩
    clear c00 c01 c02 c10 c11 c12 c20 c21 c22 c30 c31 c32 c40 c41 c42 c50 c51 c52 c60 c61 c62
    replace L := L.step be
    clear be
    have c00 := L.b0.c30
    have c01 := L.b0.c31
    have c02 := L.b0.c32
    have c10 := L.tl.b0.c30
    have c11 := L.tl.b0.c31
    have c12 := L.tl.b0.c32
    have c20 := L.tl.tl.b0.c30
    have c21 := L.tl.tl.b0.c31
    have c22 := L.tl.tl.b0.c32
    have c30 := L.tl.tl.tl.b0.c30
    have c31 := L.tl.tl.tl.b0.c31
    have c32 := L.tl.tl.tl.b0.c32
    have c40 := L.tl.tl.tl.tl.b0.c30
    have c41 := L.tl.tl.tl.tl.b0.c31
    have c42 := L.tl.tl.tl.tl.b0.c32
    have c50 := L.tl.tl.tl.tl.tl.b0.c30
    have c51 := L.tl.tl.tl.tl.tl.b0.c31
    have c52 := L.tl.tl.tl.tl.tl.b0.c32
    have c60 := L.tl.tl.tl.tl.tl.tl.b0.c30
    have c61 := L.tl.tl.tl.tl.tl.tl.b0.c31
    have c62 := L.tl.tl.tl.tl.tl.tl.b0.c32
    go_wp2_with fail
    refine (T2.out _ _ (isD_n (s := .slice A4 (zl M2) c4) (L.getN (by simp)))).mono ?_
    rintro e w7 ⟨rfl, be⟩
    clear c00 c01 c02 c10 c11 c12 c20 c21 c22 c30 c31 c32 c40 c41 c42 c50 c51 c52 c60 c61 c62
    replace L := L.step be
    clear be
    have c00 := L.b0.c30
    have c01 := L.b0.c31
    have c02 := L.b0.c32
    have c10 := L.tl.b0.c30
    have c11 := L.tl.b0.c31
    have c12 := L.tl.b0.c32
    have c20 := L.tl.tl.b0.c30
    have c21 := L.tl.tl.b0.c31
    have c22 := L.tl.tl.b0.c32
    have c30 := L.tl.tl.tl.b0.c30
    have c31 := L.tl.tl.tl.b0.c31
    have c32 := L.tl.tl.tl.b0.c32
    have c40 := L.tl.tl.tl.tl.b0.c30
    have c41 := L.tl.tl.tl.tl.b0.c31
    have c42 := L.tl.tl.tl.tl.b0.c32
    have c50 := L.tl.tl.tl.tl.tl.b0.c30
    have c51 := L.tl.tl.tl.tl.tl.b0.c31
    have c52 := L.tl.tl.tl.tl.tl.b0.c32
    have c60 := L.tl.tl.tl.tl.tl.tl.b0.c30
    have c61 := L.tl.tl.tl.tl.tl.tl.b0.c31
    have c62 := L.tl.tl.tl.tl.tl.tl.b0.c32
    go_wp2_with fail
    refine (T3.out _ _ (isD_n (s := .slice A5 (zl M3) c5) (L.getN (by simp)))).mono ?_
    rintro e w8 ⟨rfl, be⟩
    clear c00 c01 c02 c10 c11 c12 c20 c21 c22 c30 c31 c32 c40 c41 c42 c50 c51 c52 c60 c61 c62
    replace L := L.step be
    clear be
    go_wp2_with fail
    have hgx : g < w8.heap.size := L.tl.tl.tl.tl.b0.lt
    have hgy : g + 1 < w8.heap.size := L.tl.tl.tl.b0.lt
    have Q0 := Lib.hid (fun Z (hZ : Below w8.heap.size w8 Z) => (L.tl.tl.tl.tl.b0.mono hZ).c30)
    have Q1 := Lib.hid (fun Z (hZ : Below w8.heap.size w8 Z) => (L.tl.tl.tl.tl.b0.mono hZ).c31)
    have Q2 := Lib.hid (fun Z (hZ : Below w8.heap.size w8 Z) => (L.tl.tl.tl.tl.b0.mono hZ).c32)
    have Q3 := Lib.hid (fun Z (hZ : Below w8.heap.size w8 Z) => (L.tl.tl.tl.b0.mono hZ).c30)
    have Q4 := Lib.hid (fun Z (hZ : Below w8.heap.size w8 Z) => (L.tl.tl.tl.b0.mono hZ).c31)
    have Q5 := Lib.hid (fun Z (hZ : Below w8.heap.size w8 Z) => (L.tl.tl.tl.b0.mono hZ).c32)
    have D0 : Dq w8 w8 [(.slice A (zl m) c, m.natAbs), (.slice B (zl n) d, n.natAbs)] [] [] [] := ⟨((Lq.mk0 w8).n (L.getN (v := .slice B (zl n) d) (x := n.natAbs) (by simp))).n (L.getN (v := .slice A (zl m) c) (x := m.natAbs) (by simp)), List.nodup_nil, fun p hp => by cases hp⟩
    have D := D0.drew
    have LL := Lib.hid L
    clear L
    obtain ⟨K, hK⟩ : ∃ K, w8.heap.size = K := ⟨_, rfl⟩
    have hz0 : K ≤ w8.heap.size := by omega
    have hmx : g < K := by omega
    have hmy : g + 1 < K := by omega
    have hmd : w8.drew.heap.size = K := hK
    go_cut [14, 15] from 70 to 74 (fun s5 s6 wx => Made2Q w8 an ad bn bd s5 s6 wx)
    case first =>
      go_region_held3 (fun w' => w'.cell? ⟨g, 0, none⟩ = some (.bool (ng m)) ∧ w'.cell? ⟨g, 1, none⟩ = some (.slice A (zl m) c) ∧ w'.cell? ⟨g, 2, none⟩ = some (.int .i64 e) ∧ w'.cell? ⟨g + 1, 0, none⟩ = some (.bool (ng n)) ∧ w'.cell? ⟨g + 1, 1, none⟩ = some (.slice B (zl n) d) ∧ w'.cell? ⟨g + 1, 2, none⟩ = some (.int .i64 k)) (((try dsimp only); refine ⟨?_, ?_, ?_, ?_, ?_, ?_⟩ <;> (repeat (first | (with_reducible exact Q0.out _ D.lq.below) | (with_reducible exact Q0.out _ D0.lq.below) | (with_reducible exact Q1.out _ D.lq.below) | (with_reducible exact Q1.out _ D0.lq.below) | (with_reducible exact Q2.out _ D.lq.below) | (with_reducible exact Q2.out _ D0.lq.below) | (with_reducible exact Q3.out _ D.lq.below) | (with_reducible exact Q3.out _ D0.lq.below) | (with_reducible exact Q4.out _ D.lq.below) | (with_reducible exact Q4.out _ D0.lq.below) | (with_reducible exact Q5.out _ D.lq.below) | (with_reducible exact Q5.out _ D0.lq.below) | (with_reducible refine c_alloc _ ?_) | (with_reducible refine c_drew ?_) | (with_reducible refine c_set ?_ (by assumption) ?_) | omega)))) (first | (go_at_call 25; (with_reducible refine (X1.out _ _ ?_ ).mono ?_); (· (first | (with_reducible refine isD_n (D.getN ?_); (repeat (first | (with_reducible exact List.mem_cons_self) | apply List.mem_cons_of_mem))) | (with_reducible refine isD_n ((D.box false none none 0 0 0 0).getN ?_); (repeat (first | (with_reducible exact List.mem_cons_self) | apply List.mem_cons_of_mem))) | (with_reducible refine isD_n ((D.box2 false none none 0 0 0 0 false none none 0 0 0 0).getN ?_); (repeat (first | (with_reducible exact List.mem_cons_self) | apply List.mem_cons_of_mem))) | (with_reducible refine isD_n ((D0.box false none none 0 0 0 0).drew.getN ?_); (repeat (first | (with_reducible exact List.mem_cons_self) | apply List.mem_cons_of_mem))) | (with_reducible refine isD_n ((D0.box2 false none none 0 0 0 0 false none none 0 0 0 0).drew.getN ?_); (repeat (first | (with_reducible exact List.mem_cons_self) | apply List.mem_cons_of_mem))))); rintro e9 wh ⟨vh, rfl, iq, be⟩; (first | (replace D := D.step be) | (replace D := (D.boxM hmd false none none 0 0 0 0).step be) | (replace D := (D.boxM2 hmd false none none 0 0 0 0 false none none 0 0 0 0).step be) | (replace D := (D.box false none none 0 0 0 0).step be) | (replace D := (D.box2 false none none 0 0 0 0 false none none 0 0 0 0).step be)); have hz := be.size; (try simp at hz); replace D := D.q iq; obtain ⟨A6, c6, B6, k6, rfl, _, _, _⟩ := iq.form; clear iq; (try (have q000 := D.lq.b0.c30; have q003 := D.lq.b0.fr 0; have q001 := D.lq.b0.c31; have q004 := D.lq.b0.fr 1; have q002 := D.lq.b0.c32; have q005 := D.lq.b0.fr 2)); (try (have q010 := (D.alloc (.cells #[.bool false, .slice none 0 0, .slice none 0 0] 44)).lq.b0.c30; have q013 := (D.alloc (.cells #[.bool false, .slice none 0 0, .slice none 0 0] 44)).lq.b0.fr 0; have q011 := (D.alloc (.cells #[.bool false, .slice none 0 0, .slice none 0 0] 44)).lq.b0.c31; have q014 := (D.alloc (.cells #[.bool false, .slice none 0 0, .slice none 0 0] 44)).lq.b0.fr 1; have q012 := (D.alloc (.cells #[.bool false, .slice none 0 0, .slice none 0 0] 44)).lq.b0.c32; have q015 := (D.alloc (.cells #[.bool false, .slice none 0 0, .slice none 0 0] 44)).lq.b0.fr 2)); (try (have q020 := ((D.alloc (.cells #[.bool false, .slice none 0 0, .slice none 0 0] 44)).alloc (.cells #[.bool false, .slice none 0 0, .slice none 0 0] 44)).lq.b0.c30; have q023 := ((D.alloc (.cells #[.bool false, .slice none 0 0, .slice none 0 0] 44)).alloc (.cells #[.bool false, .slice none 0 0, .slice none 0 0] 44)).lq.b0.fr 0; have q021 := ((D.alloc (.cells #[.bool false, .slice none 0 0, .slice none 0 0] 44)).alloc (.cells #[.bool false, .slice none 0 0, .slice none 0 0] 44)).lq.b0.c31; have q024 := ((D.alloc (.cells #[.bool false, .slice none 0 0, .slice none 0 0] 44)).alloc (.cells #[.bool false, .slice none 0 0, .slice none 0 0] 44)).lq.b0.fr 1; have q022 := ((D.alloc (.cells #[.bool false, .slice none 0 0, .slice none 0 0] 44)).alloc (.cells #[.bool false, .slice none 0 0, .slice none 0 0] 44)).lq.b0.c32; have q025 := ((D.alloc (.cells #[.bool false, .slice none 0 0, .slice none 0 0] 44)).alloc (.cells #[.bool false, .slice none 0 0, .slice none 0 0] 44)).lq.b0.fr 2)); (try (have q100 := D.lq.tl.b0.c30; have q103 := D.lq.tl.b0.fr 0; have q101 := D.lq.tl.b0.c31; have q104 := D.lq.tl.b0.fr 1; have q102 := D.lq.tl.b0.c32; have q105 := D.lq.tl.b0.fr 2)); (try (have q110 := (D.alloc (.cells #[.bool false, .slice none 0 0, .slice none 0 0] 44)).lq.tl.b0.c30; have q113 := (D.alloc (.cells #[.bool false, .slice none 0 0, .slice none 0 0] 44)).lq.tl.b0.fr 0; have q111 := (D.alloc (.cells #[.bool false, .slice none 0 0, .slice none 0 0] 44)).lq.tl.b0.c31; have q114 := (D.alloc (.cells #[.bool false, .slice none 0 0, .slice none 0 0] 44)).lq.tl.b0.fr 1; have q112 := (D.alloc (.cells #[.bool false, .slice none 0 0, .slice none 0 0] 44)).lq.tl.b0.c32; have q115 := (D.alloc (.cells #[.bool false, .slice none 0 0, .slice none 0 0] 44)).lq.tl.b0.fr 2)); (try (have q120 := ((D.alloc (.cells #[.bool false, .slice none 0 0, .slice none 0 0] 44)).alloc (.cells #[.bool false, .slice none 0 0, .slice none 0 0] 44)).lq.tl.b0.c30; have q123 := ((D.alloc (.cells #[.bool false, .slice none 0 0, .slice none 0 0] 44)).alloc (.cells #[.bool false, .slice none 0 0, .slice none 0 0] 44)).lq.tl.b0.fr 0; have q121 := ((D.alloc (.cells #[.bool false, .slice none 0 0, .slice none 0 0] 44)).alloc (.cells #[.bool false, .slice none 0 0, .slice none 0 0] 44)).lq.tl.b0.c31; have q124 := ((D.alloc (.cells #[.bool false, .slice none 0 0, .slice none 0 0] 44)).alloc (.cells #[.bool false, .slice none 0 0, .slice none 0 0] 44)).lq.tl.b0.fr 1; have q122 := ((D.alloc (.cells #[.bool false, .slice none 0 0, .slice none 0 0] 44)).alloc (.cells #[.bool false, .slice none 0 0, .slice none 0 0] 44)).lq.tl.b0.c32; have q125 := ((D.alloc (.cells #[.bool false, .slice none 0 0, .slice none 0 0] 44)).alloc (.cells #[.bool false, .slice none 0 0, .slice none 0 0] 44)).lq.tl.b0.fr 2)); (try obtain ⟨na, nb, nc, nd, nl⟩ := D.n0); (try obtain ⟨ne, nf, ng', nh, nm⟩ := D.n1); (try obtain ⟨ni, nj⟩ := D.n01)) | (go_at_call 25; (with_reducible refine (X2.out _ _ ?_ ).mono ?_); (· (first | (with_reducible refine isD_n (D.getN ?_); (repeat (first | (with_reducible exact List.mem_cons_self) | apply List.mem_cons_of_mem))) | (with_reducible refine isD_n ((D.box false none none 0 0 0 0).getN ?_); (repeat (first | (with_reducible exact List.mem_cons_self) | apply List.mem_cons_of_mem))) | (with_reducible refine isD_n ((D.box2 false none none 0 0 0 0 false none none 0 0 0 0).getN ?_); (repeat (first | (with_reducible exact List.mem_cons_self) | apply List.mem_cons_of_mem))) | (with_reducible refine isD_n ((D0.box false none none 0 0 0 0).drew.getN ?_); (repeat (first | (with_reducible exact List.mem_cons_self) | apply List.mem_cons_of_mem))) | (with_reducible refine isD_n ((D0.box2 false none none 0 0 0 0 false none none 0 0 0 0).drew.getN ?_); (repeat (first | (with_reducible exact List.mem_cons_self) | apply List.mem_cons_of_mem))))); rintro e9 wh ⟨vh, rfl, iq, be⟩; (first | (replace D := D.step be) | (replace D := (D.boxM hmd false none none 0 0 0 0).step be) | (replace D := (D.boxM2 hmd false none none 0 0 0 0 false none none 0 0 0 0).step be) | (replace D := (D.box false none none 0 0 0 0).step be) | (replace D := (D.box2 false none none 0 0 0 0 false none none 0 0 0 0).step be)); have hz := be.size; (try simp at hz); replace D := D.q iq; obtain ⟨A7, c7, B7, k7, rfl, _, _, _⟩ := iq.form; clear iq; (try (have q000 := D.lq.b0.c30; have q003 := D.lq.b0.fr 0; have q001 := D.lq.b0.c31; have q004 := D.lq.b0.fr 1; have q002 := D.lq.b0.c32; have q005 := D.lq.b0.fr 2)); (try (have q010 := (D.alloc (.cells #[.bool false, .slice none 0 0, .slice none 0 0] 44)).lq.b0.c30; have q013 := (D.alloc (.cells #[.bool false, .slice none 0 0, .slice none 0 0] 44)).lq.b0.fr 0; have q011 := (D.alloc (.cells #[.bool false, .slice none 0 0, .slice none 0 0] 44)).lq.b0.c31; have q014 := (D.alloc (.cells #[.bool false, .slice none 0 0, .slice none 0 0] 44)).lq.b0.fr 1; have q012 := (D.alloc (.cells #[.bool false, .slice none 0 0, .slice none 0 0] 44)).lq.b0.c32; have q015 := (D.alloc (.cells #[.bool false, .slice none 0 0, .slice none 0 0] 44)).lq.b0.fr 2)); (try (have q020 := ((D.alloc (.cells #[.bool false, .slice none 0 0, .slice none 0 0] 44)).alloc (.cells #[.bool false, .slice none 0 0, .slice none 0 0] 44)).lq.b0.c30; have q023 := ((D.alloc (.cells #[.bool false, .slice none 0 0, .slice none 0 0] 44)).alloc (.cells #[.bool false, .slice none 0 0, .slice none 0 0] 44)).lq.b0.fr 0; have q021 := ((D.alloc (.cells #[.bool false, .slice none 0 0, .slice none 0 0] 44)).alloc (.cells #[.bool false, .slice none 0 0, .slice none 0 0] 44)).lq.b0.c31; have q024 := ((D.alloc (.cells #[.bool false, .slice none 0 0, .slice none 0 0] 44)).alloc (.cells #[.bool false, .slice none 0 0, .slice none 0 0] 44)).lq.b0.fr 1; have q022 := ((D.alloc (.cells #[.bool false, .slice none 0 0, .slice none 0 0] 44)).alloc (.cells #[.bool false, .slice none 0 0, .slice none 0 0] 44)).lq.b0.c32; have q025 := ((D.alloc (.cells #[.bool false, .slice none 0 0, .slice none 0 0] 44)).alloc (.cells #[.bool false, .slice none 0 0, .slice none 0 0] 44)).lq.b0.fr 2)); (try (have q100 := D.lq.tl.b0.c30; have q103 := D.lq.tl.b0.fr 0; have q101 := D.lq.tl.b0.c31; have q104 := D.lq.tl.b0.fr 1; have q102 := D.lq.tl.b0.c32; have q105 := D.lq.tl.b0.fr 2)); (try (have q110 := (D.alloc (.cells #[.bool false, .slice none 0 0, .slice none 0 0] 44)).lq.tl.b0.c30; have q113 := (D.alloc (.cells #[.bool false, .slice none 0 0, .slice none 0 0] 44)).lq.tl.b0.fr 0; have q111 := (D.alloc (.cells #[.bool false, .slice none 0 0, .slice none 0 0] 44)).lq.tl.b0.c31; have q114 := (D.alloc (.cells #[.bool false, .slice none 0 0, .slice none 0 0] 44)).lq.tl.b0.fr 1; have q112 := (D.alloc (.cells #[.bool false, .slice none 0 0, .slice none 0 0] 44)).lq.tl.b0.c32; have q115 := (D.alloc (.cells #[.bool false, .slice none 0 0, .slice none 0 0] 44)).lq.tl.b0.fr 2)); (try (have q120 := ((D.alloc (.cells #[.bool false, .slice none 0 0, .slice none 0 0] 44)).alloc (.cells #[.bool false, .slice none 0 0, .slice none 0 0] 44)).lq.tl.b0.c30; have q123 := ((D.alloc (.cells #[.bool false, .slice none 0 0, .slice none 0 0] 44)).alloc (.cells #[.bool false, .slice none 0 0, .slice none 0 0] 44)).lq.tl.b0.fr 0; have q121 := ((D.alloc (.cells #[.bool false, .slice none 0 0, .slice none 0 0] 44)).alloc (.cells #[.bool false, .slice none 0 0, .slice none 0 0] 44)).lq.tl.b0.c31; have q124 := ((D.alloc (.cells #[.bool false, .slice none 0 0, .slice none 0 0] 44)).alloc (.cells #[.bool false, .slice none 0 0, .slice none 0 0] 44)).lq.tl.b0.fr 1; have q122 := ((D.alloc (.cells #[.bool false, .slice none 0 0, .slice none 0 0] 44)).alloc (.cells #[.bool false, .slice none 0 0, .slice none 0 0] 44)).lq.tl.b0.c32; have q125 := ((D.alloc (.cells #[.bool false, .slice none 0 0, .slice none 0 0] 44)).alloc (.cells #[.bool false, .slice none 0 0, .slice none 0 0] 44)).lq.tl.b0.fr 2)); (try obtain ⟨na, nb, nc, nd, nl⟩ := D.n0); (try obtain ⟨ne, nf, ng', nh, nm⟩ := D.n1); (try obtain ⟨ni, nj⟩ := D.n01)))
      all_goals
        go_wp2_with fail
        go_meet
        first
        | ((with_reducible refine made2q_a D ?_ ?_) <;> (repeat (first | (with_reducible exact List.mem_cons_self) | apply List.mem_cons_of_mem)))
        | ((with_reducible refine made2q_b D ?_ ?_) <;> (repeat (first | (with_reducible exact List.mem_cons_self) | apply List.mem_cons_of_mem)))
        | ((with_reducible refine made2q_c D ?_ ?_) <;> (repeat (first | (with_reducible exact List.mem_cons_self) | apply List.mem_cons_of_mem)))
        | ((with_reducible refine made2q_d D ?_ ?_) <;> (repeat (first | (with_reducible exact List.mem_cons_self) | apply List.mem_cons_of_mem)))
        | ((with_reducible refine made2q_e D ?_ ?_) <;> (repeat (first | (with_reducible exact List.mem_cons_self) | apply List.mem_cons_of_mem)))
        | ((with_reducible refine made2q_f D ?_ ?_) <;> (repeat (first | (with_reducible exact List.mem_cons_self) | apply List.mem_cons_of_mem)))
    case rest =>
      obtain ⟨g6, g7, A6, B6, c6, k6, A7, B7, c7, k7, rfl, rfl, bw, hb1, hb2, hq1, hq2⟩ := hcut
      have L := ((((LL.out.step bw).q hq2).q hq1).b hb2).b hb1
      clear D D0 hmd hz0 hmx hmy hgx hgy LL Q0 Q1 Q2 Q3 Q4 Q5 bw hb1 hb2 hq1 hq2
      generalize wc = wd at *
      go_wp2_with fail
      replace L := L.drew
      have c00 := L.b0.c30
      have c01 := L.b0.c31
      have c02 := L.b0.c32
      have c10 := L.tl.b0.c30
      have c11 := L.tl.b0.c31
      have c12 := L.tl.b0.c32
      have c20 := L.tl.tl.b0.c30
      have c21 := L.tl.tl.b0.c31
      have c22 := L.tl.tl.b0.c32
      have c30 := L.tl.tl.tl.b0.c30
      have c31 := L.tl.tl.tl.b0.c31
      have c32 := L.tl.tl.tl.b0.c32
      have c40 := L.tl.tl.tl.tl.b0.c30
      have c41 := L.tl.tl.tl.tl.b0.c31
      have c42 := L.tl.tl.tl.tl.b0.c32
      have c50 := L.tl.tl.tl.tl.tl.b0.c30
      have c51 := L.tl.tl.tl.tl.tl.b0.c31
      have c52 := L.tl.tl.tl.tl.tl.b0.c32
      have c60 := L.tl.tl.tl.tl.tl.tl.b0.c30
      have c61 := L.tl.tl.tl.tl.tl.tl.b0.c31
      have c62 := L.tl.tl.tl.tl.tl.tl.b0.c32
      have c70 := L.tl.tl.tl.tl.tl.tl.tl.b0.c30
      have c71 := L.tl.tl.tl.tl.tl.tl.tl.b0.c31
      have c72 := L.tl.tl.tl.tl.tl.tl.tl.b0.c32
      have c80 := L.tl.tl.tl.tl.tl.tl.tl.tl.b0.c30
      have c81 := L.tl.tl.tl.tl.tl.tl.tl.tl.b0.c31
      have c82 := L.tl.tl.tl.tl.tl.tl.tl.tl.b0.c32
      go_region_held3 (fun w' => w'.cell? ⟨g, 0, none⟩ = some (.bool (ng m)) ∧ w'.cell? ⟨g, 1, none⟩ = some (.slice A (zl m) c) ∧ w'.cell? ⟨g, 2, none⟩ = some (.int .i64 e) ∧ w'.cell? ⟨g3, 0, none⟩ = some (.bool (ng M1)) ∧ w'.cell? ⟨g3, 1, none⟩ = some (.slice A3 (zl M1) c3) ∧ w'.cell? ⟨g3, 2, none⟩ = some (.int .i64 E1) ∧ w'.cell? ⟨g4, 0, none⟩ = some (.bool (ng M2)) ∧ w'.cell? ⟨g4, 1, none⟩ = some (.slice A4 (zl M2) c4) ∧ w'.cell? ⟨g4, 2, none⟩ = some (.int .i64 E2) ∧ w'.cell? ⟨g5, 0, none⟩ = some (.bool (ng M3)) ∧ w'.cell? ⟨g5, 1, none⟩ = some (.slice A5 (zl M3) c5) ∧ w'.cell? ⟨g5, 2, none⟩ = some (.int .i64 E3) ∧ w'.cell? ⟨g7, 0, none⟩ = some (.bool (ng bn)) ∧ w'.cell? ⟨g7, 1, none⟩ = some (.slice A7 (zl bn) c7) ∧ w'.cell? ⟨g7, 2, none⟩ = some (.slice B7 (len bd) k7) ∧ w'.cell? ⟨g6, 0, none⟩ = some (.bool (ng an)) ∧ w'.cell? ⟨g6, 1, none⟩ = some (.slice A6 (zl an) c6) ∧ w'.cell? ⟨g6, 2, none⟩ = some (.slice B6 (len ad) k6)) (first | (with_reducible exact ⟨L.tl.tl.tl.tl.tl.tl.b0.c30, L.tl.tl.tl.tl.tl.tl.b0.c31, L.tl.tl.tl.tl.tl.tl.b0.c32, L.tl.tl.tl.tl.b0.c30, L.tl.tl.tl.tl.b0.c31, L.tl.tl.tl.tl.b0.c32, L.tl.tl.tl.b0.c30, L.tl.tl.tl.b0.c31, L.tl.tl.tl.b0.c32, L.tl.tl.b0.c30, L.tl.tl.b0.c31, L.tl.tl.b0.c32, L.tl.b0.c30, L.tl.b0.c31, L.tl.b0.c32, L.b0.c30, L.b0.c31, L.b0.c32⟩) | exact ⟨L.tl.tl.tl.tl.tl.tl.b0.c30, L.tl.tl.tl.tl.tl.tl.b0.c31, L.tl.tl.tl.tl.tl.tl.b0.c32, L.tl.tl.tl.tl.b0.c30, L.tl.tl.tl.tl.b0.c31, L.tl.tl.tl.tl.b0.c32, L.tl.tl.tl.b0.c30, L.tl.tl.tl.b0.c31, L.tl.tl.tl.b0.c32, L.tl.tl.b0.c30, L.tl.tl.b0.c31, L.tl.tl.b0.c32, L.tl.b0.c30, L.tl.b0.c31, L.tl.b0.c32, L.b0.c30, L.b0.c31, L.b0.c32⟩) (first | (go_at_call 27; (with_reducible refine (Q1'.out _ _ ?_ ).mono ?_); (· (refine isD_n (L.getN ?_); (repeat (first | (with_reducible exact List.mem_cons_self) | apply List.mem_cons_of_mem)))); rintro e wh ⟨vh, rfl, iq, be⟩; replace L := (L.step be).q iq; clear be iq) | (go_at_call 27; (with_reducible refine (Q2'.out _ _ ?_ ).mono ?_); (· (refine isD_n (L.getN ?_); (repeat (first | (with_reducible exact List.mem_cons_self) | apply List.mem_cons_of_mem)))); rintro e wh ⟨vh, rfl, iq, be⟩; replace L := (L.step be).q iq; clear be iq) | (go_at_call 27; (with_reducible refine (Q3'.out _ _ ?_ ).mono ?_); (· (refine isD_n (L.getN ?_); (repeat (first | (with_reducible exact List.mem_cons_self) | apply List.mem_cons_of_mem)))); rintro e wh ⟨vh, rfl, iq, be⟩; replace L := (L.step be).q iq; clear be iq) | (go_at_call 28; (with_reducible refine (R1.out _ _ _ ?_ ?_ ).mono ?_); (· (refine L.getQ ?_; (repeat (first | (with_reducible exact List.mem_cons_self) | apply List.mem_cons_of_mem)))); (· (refine L.getQ ?_; (repeat (first | (with_reducible exact List.mem_cons_self) | apply List.mem_cons_of_mem)))); rintro e wh ⟨vh, rfl, iq, be⟩; replace L := (L.step be).q iq; clear be iq) | (go_at_call 29; (with_reducible refine (R2.out _ _ _ ?_ ?_ ).mono ?_); (· (refine L.getQ ?_; (repeat (first | (with_reducible exact List.mem_cons_self) | apply List.mem_cons_of_mem)))); (· (refine L.getQ ?_; (repeat (first | (with_reducible exact List.mem_cons_self) | apply List.mem_cons_of_mem)))); rintro e wh ⟨vh, rfl, iq, be⟩; replace L := (L.step be).q iq; clear be iq) | (go_at_call 30; (with_reducible refine (R3.out _ _ _ ?_ ?_ ).mono ?_); (· (refine L.getQ ?_; (repeat (first | (with_reducible exact List.mem_cons_self) | apply List.mem_cons_of_mem)))); (· (refine L.getQ ?_; (repeat (first | (with_reducible exact List.mem_cons_self) | apply List.mem_cons_of_mem)))); rintro e wh ⟨vh, rfl, iq, be⟩; replace L := (L.step be).q iq; clear be iq) | (go_at_call 26; (with_reducible refine (S1.out _ _ _ ?_ ?_ ).mono ?_); (· (refine L.getQ ?_; (repeat (first | (with_reducible exact List.mem_cons_self) | apply List.mem_cons_of_mem)))); (· (refine L.getQ ?_; (repeat (first | (with_reducible exact List.mem_cons_self) | apply List.mem_cons_of_mem)))); rintro e wh ⟨rfl, be⟩; replace L := L.step be; clear be) | (go_at_call 26; (with_reducible refine (S2.out _ _ _ ?_ ?_ ).mono ?_); (· (refine L.getQ ?_; (repeat (first | (with_reducible exact List.mem_cons_self) | apply List.mem_cons_of_mem)))); (· (refine L.getQ ?_; (repeat (first | (with_reducible exact List.mem_cons_self) | apply List.mem_cons_of_mem)))); rintro e wh ⟨rfl, be⟩; replace L := L.step be; clear be) | (go_at_call 26; (with_reducible refine (S3.out _ _ _ ?_ ?_ ).mono ?_); (· (refine L.getQ ?_; (repeat (first | (with_reducible exact List.mem_cons_self) | apply List.mem_cons_of_mem)))); (· (refine L.getQ ?_; (repeat (first | (with_reducible exact List.mem_cons_self) | apply List.mem_cons_of_mem)))); rintro e wh ⟨rfl, be⟩; replace L := L.step be; clear be) | (go_at_call 31; (with_reducible refine (N1.out _ _ ?_ ).mono ?_); (· (refine isD_n (L.getN ?_); (repeat (first | (with_reducible exact List.mem_cons_self) | apply List.mem_cons_of_mem)))); rintro e wh ⟨vh, rfl, id, be⟩; obtain ⟨A9, c9, rfl, _, in9⟩ := id.form; replace L := (L.step be).n in9; clear be id in9) | (go_at_call 32; (with_reducible refine (N2.out _ _ ?_ ).mono ?_); (· (refine isD_n (L.getN ?_); (repeat (first | (with_reducible exact List.mem_cons_self) | apply List.mem_cons_of_mem)))); rintro e wh ⟨vh, rfl, id, be⟩; obtain ⟨A9, c9, rfl, _, in9⟩ := id.form; replace L := (L.step be).n in9; clear be id in9) | (go_at_call 16; (with_reducible refine (S8.out _ _ _ ?_ ?_ ).mono ?_); (· (refine isD_n (L.getN ?_); (repeat (first | (with_reducible exact List.mem_cons_self) | apply List.mem_cons_of_mem)))); (· (refine isD_n (L.getN ?_); (repeat (first | (with_reducible exact List.mem_cons_self) | apply List.mem_cons_of_mem)))); rintro e wh ⟨rfl, be⟩; replace L := L.step be; clear be))
      clear c00 c01 c02 c10 c11 c12 c20 c21 c22 c30 c31 c32 c40 c41 c42 c50 c51 c52 c60 c61 c62 c70 c71 c72 c80 c81 c82
      go_wp2_with fail
      go_ret
      exact ⟨rfl, L.below⟩

end Go.Proofs.YtpgiolbnmlbjbaaGreatDoor
