/- The program's arith: numerator, bySign, quotient, Const. -/
import Derived.Test.YtoobcngbnjeddaaGreatDoorArPEZ
import Derived.Test.YtoobcngbnjeddaaGreatDoorBaseG
import Derived.Test.YtoobcngbnjeddaaGreatDoorBaseU
import Derived.Deep.RegionHeld3
import Derived.Deep.DrawnRows
namespace Go.Proofs.YtoobcngbnjeddaaGreatDoor
open Go.RowKit
set_option linter.unusedVariables false
set_option linter.unusedSimpArgs false
set_option maxRecDepth 100000
attribute [local go_sem ↓] Go.wp_at_zero Go.wp_at_succ

/-- The quotient of two dyadics as a pair. -/
def qtA (m e n f : Int) : Int := if m = 0 then 0 else (Rat.divInt m n).num * 2 ^ (e - f).toNat
def qtD (m e n f : Int) : Nat := if m = 0 then 1 else (Rat.divInt m n).den * 2 ^ (f - e).toNat
theorem qt_pos (m e n f : Int) : 0 < qtD m e n f := by
  unfold qtD
  split
  · omega
  · exact Nat.mul_pos (Rat.den_pos _) (Nat.pow_pos (by omega))
theorem dq_pow (m e : Int) : dq m e = (m : Rat) * dq 1 e := dq_scale m e
theorem dq_one_sub (e f : Int) : dq 1 (e - f) * dq 1 f = dq 1 e := by
  rw [← dq_mul, Int.mul_one]
  congr 1
  omega
theorem divInt_mul_r (a : Int) (d : Nat) (x y : Nat) (hx : 0 < x) (hy : 0 < y) (hd : 0 < d) : Rat.divInt (a * (x : Int)) ((d * y : Nat) : Int) = Rat.divInt a (d : Int) * Rat.divInt (x : Int) (y : Int) := by
  rw [Rat.divInt_mul_divInt]
  congr 1
theorem qt_val {m e n f : Int} (hn : n ≠ 0) : Rat.divInt (qtA m e n f) (qtD m e n f : Int) = dq m e / dq n f := by
  have hn0 : (n : Rat) ≠ 0 := fun h => hn (Rat.intCast_eq_zero_iff.1 h)
  have hp := dq_pos f
  have hpn : dq 1 f ≠ 0 := fun h => by rw [h] at hp; exact Rat.not_le.2 hp Rat.le_refl
  by_cases h0 : m = 0
  · unfold qtA qtD
    rw [if_pos h0, if_pos h0, h0, dq_pow 0 e, Rat.intCast_zero, Rat.zero_mul, Rat.div_def, Rat.zero_mul]
    rfl
  · unfold qtA qtD
    rw [if_neg h0, if_neg h0]
    have e1 : (2 : Int) ^ (e - f).toNat = ((2 ^ (e - f).toNat : Nat) : Int) := (cast2 _).symm
    rw [e1, divInt_mul_r _ _ _ _ (Nat.pow_pos (by omega)) (Nat.pow_pos (by omega)) (Rat.den_pos _), Rat.num_divInt_den]
    have e2 : Rat.divInt ((2 ^ (e - f).toNat : Nat) : Int) ((2 ^ (f - e).toNat : Nat) : Int) = dq 1 (e - f) := by
      unfold dq
      rw [Int.one_mul, cast2, show -(e - f) = f - e from by omega]
    rw [e2, dq_pow m e, dq_pow n f, ← dq_one_sub e f, Rat.div_def, Rat.inv_mul_rev]
    have e3 : Rat.divInt m n = (m : Rat) * (n : Rat)⁻¹ := by rw [← Rat.div_def]; exact Rat.divInt_eq_div m n
    rw [e3]
    have e4 : dq 1 f * (dq 1 f)⁻¹ = 1 := Rat.mul_inv_cancel _ hpn
    rw [show (m : Rat) * (dq 1 (e - f) * dq 1 f) * ((dq 1 f)⁻¹ * (n : Rat)⁻¹) = (m : Rat) * (dq 1 (e - f) * (dq 1 f * (dq 1 f)⁻¹) * (n : Rat)⁻¹) from by simp only [Rat.mul_assoc], e4, Rat.mul_one, Rat.mul_assoc, Rat.mul_comm (n : Rat)⁻¹]
theorem qt_low {m n : Int} (hn : n ≠ 0) : zl (Rat.divInt m n).num ≤ zl m ∧ len (Rat.divInt m n).den ≤ zl n := by
  obtain ⟨e1, e2⟩ := divInt_pair m n hn
  constructor
  · unfold zl
    rw [e1]
    exact len_mono (by rw [sg_abs]; exact Nat.div_le_self _ _)
  · unfold zl
    rw [e2]
    exact len_mono (Nat.div_le_self _ _)
theorem qt_small {m e n f : Int} (hn : n ≠ 0) (lm : zl m ≤ 25) (ln : zl n ≤ 25) (he : -3000 ≤ e ∧ e ≤ 3000) (hf : -3000 ≤ f ∧ f ≤ 3000) : zl (qtA m e n f) ≤ 800 ∧ len (qtD m e n f) ≤ 800 := by
  obtain ⟨h1, h2⟩ := qt_low (m := m) hn
  unfold qtA qtD
  constructor
  · split
    · rw [zl_zero]; omega
    · have := zl_two (Rat.divInt m n).num (e - f).toNat
      omega
  · split
    · have := len_le1 (show 1 < 4294967296 by omega)
      omega
    · have h3 := len_mul (Rat.divInt m n).den (2 ^ (f - e).toNat)
      have h4 := len_two (f - e).toNat
      omega

set_option maxHeartbeats 4000000 in
theorem anum_any (z e : Int) (vx : Value) (w : World) (hx : IsZ w vx z) (lz : zl z ≤ 1000) (he : -20000 ≤ e ∧ e ≤ 20000) :
    Calls Tryz.prog 105 #[vx, .int .i64 e] w (RetZ w (z * 2 ^ e.toNat)) := by
  obtain ⟨A, c, rfl, _⟩ := hx.form
  have L0 := (Lq.mk0 w).z hx
  have HR := Lib.hid (fun v W h => drat_any z e v W h (by omega) (by omega))
  have hfd : ∀ (x : Bool) (E F : Option Addr) (n1 n2 n3 n4 : Nat) (W : World), (Instr.field 45 (.agg #[.bool x, .slice E n1 n2, .slice F n3 n4]) 0).run Tryz.prog W = .ok (.agg #[.bool x, .slice E n1 n2]) W := fun _ _ _ _ _ _ _ _ => by kernel_rfl
  generalize z * 2 ^ e.toNat = a at *
  generalize 2 ^ (-e).toNat = d at *
  clear hx lz he
  go_enter Tryz.func105, Tryz.ntmps105
  go_wp2_with fail
  have L := ((L0.varZ (w.heap.size) (by simp) (ng z) A (zl z) c).varZ (w.heap.size + 1) (by simp) false none 0 0)
  have c00 := L.b0.c20
  have f00 := L.b0.fr 0
  have c01 := L.b0.c21
  have f01 := L.b0.fr 1
  have c10 := L.tl.b0.c20
  have c11 := L.tl.b0.c21
  (try go_wp2_with fail)
  refine (HR.out _ _ (isD_z (L.getZ (v := .agg #[.bool (ng z), .slice A (zl z) c]) (by simp)))).mono ?_
  rintro e w1 ⟨vq, rfl, iq, be⟩
  clear c00 f00 c01 f01 c10 c11
  obtain ⟨A9, c9, B9, k9, rfl, iz9, _, _⟩ := iq.form
  replace L := (L.step be).z iz9
  clear be iq iz9
  have c00 := L.b0.c20
  have f00 := L.b0.fr 0
  have c01 := L.b0.c21
  have f01 := L.b0.fr 1
  have c10 := L.tl.b0.c20
  have c11 := L.tl.b0.c21
  (try go_wp2_with fail)
  have LP := L.putZ (by omega) (by first | (simp; done) | (simp; omega)) (ng a) A9 (zl a) c9
  have k0 := LP.b0.c20
  have k1 := LP.b0.c21
  unfold put2 at k0 k1
  exact bodyPost_ret (v := .agg #[.bool (ng a), .slice A9 (zl a) c9]) (by simp [results, Tryz.results105, go_sem, k0, k1]) rfl ⟨_, rfl, LP.getZ (by simp), LP.below⟩
set_option maxHeartbeats 4000000 in
theorem absign_any (m e n f n2 f2 : Int) (vx vy vz : Value) (w : World) (hx : IsD w vx m e) (hy : IsD w vy n f) (hz : IsD w vz n2 f2) (lm : zl m ≤ 1000) :
    Calls Tryz.prog 61 #[vx, vy, vz] w (RetD8 w (if m < 0 then n else n2) (if m < 0 then f else f2)) := by
  obtain ⟨A, c, rfl, _, hn1⟩ := hx.form
  obtain ⟨B, d, rfl, _, hn2⟩ := hy.form
  obtain ⟨C, h, rfl, _, hn3⟩ := hz.form
  have L0 := (((Lq.mk0 w).n hn3).n hn2).n hn1
  have hs := fun v W h => dsign_any m e v W h (by omega)
  have hc : cmpI m 0 < 0 ↔ m < 0 := by unfold cmpI; (repeat' split) <;> omega
  obtain ⟨x, hx9⟩ : ∃ x, cmpI m 0 = x := ⟨_, rfl⟩
  rw [hx9] at hs hc
  have HS := Lib.hid hs
  clear hs hx9 hx hy hz hn1 hn2 hn3 lm
  by_cases q : m < 0
  · rw [if_pos q, if_pos q]
    have b1 : decide (x < 0) = true := decide_eq_true (by omega)
    clear hc q
    go_enter Tryz.func61, Tryz.ntmps61
    go_wp2_with fail
    have L := ((((L0.varD (w.heap.size) (by simp) (ng m) A (zl m) c e).varD (w.heap.size + 1) (by simp) (ng n) B (zl n) d f).varD (w.heap.size + 2) (by simp) (ng n2) C (zl n2) h f2).varD (w.heap.size + 3) (by simp) false none 0 0 0)
    obtain ⟨gr, hgr⟩ : ∃ gr, w.heap.size + 1 + 1 + 1 = gr := ⟨_, rfl⟩
    have hgr2 : w.heap.size + 3 = gr := hgr
    obtain ⟨gz, hgz⟩ : ∃ gz, w.heap.size + 1 + 1 = gz := ⟨_, rfl⟩
    have hgz2 : w.heap.size + 2 = gz := hgz
    rw [hgr2, hgz2] at L
    rw [hgr, hgz]
    have hgr3 : w.heap.size + 2 < gr := by omega
    have hgz3 : w.heap.size + 1 < gz := by omega
    have hgr4 : gz < gr := by omega
    clear hgr hgr2 hgz hgz2
    have c00 := L.b0.c30
    have f00 := L.b0.fr 0
    have c01 := L.b0.c31
    have f01 := L.b0.fr 1
    have c02 := L.b0.c32
    have f02 := L.b0.fr 2
    have c10 := L.tl.b0.c30
    have c11 := L.tl.b0.c31
    have c12 := L.tl.b0.c32
    have c20 := L.tl.tl.b0.c30
    have c21 := L.tl.tl.b0.c31
    have c22 := L.tl.tl.b0.c32
    have c30 := L.tl.tl.tl.b0.c30
    have c31 := L.tl.tl.tl.b0.c31
    have c32 := L.tl.tl.tl.b0.c32
    (try go_wp2_with fail)
    refine (HS.out _ _ (isD_n (m := m) (e := e) (s := .slice A (zl m) c) (L.getN (by simp)))).mono ?_
    rintro e w1 ⟨rfl, be⟩
    clear c00 f00 c01 f01 c02 f02 c10 c11 c12 c20 c21 c22 c30 c31 c32
    replace L := L.step be
    clear be
    have c00 := L.b0.c30
    have f00 := L.b0.fr 0
    have c01 := L.b0.c31
    have f01 := L.b0.fr 1
    have c02 := L.b0.c32
    have f02 := L.b0.fr 2
    have c10 := L.tl.b0.c30
    have c11 := L.tl.b0.c31
    have c12 := L.tl.b0.c32
    have c20 := L.tl.tl.b0.c30
    have c21 := L.tl.tl.b0.c31
    have c22 := L.tl.tl.b0.c32
    have c30 := L.tl.tl.tl.b0.c30
    have c31 := L.tl.tl.tl.b0.c31
    have c32 := L.tl.tl.tl.b0.c32
    (try go_wp2_with fail)
    have LP := L.putD (by omega) (by first | (simp; done) | (simp; omega)) (ng n) B (zl n) d (f)
    have k0 := LP.b0.c30
    have k1 := LP.b0.c31
    have k2 := LP.b0.c32
    unfold put3 at k0 k1 k2
    exact bodyPost_ret (v := .agg #[.bool (ng n), .slice B (zl n) d, .int .i64 (f)]) (by simp [results, Tryz.results61, go_sem, k0, k1, k2]) rfl ⟨_, rfl, isD_n (LP.getN (by simp)), LP.below⟩
  · rw [if_neg q, if_neg q]
    have b1 : decide (x < 0) = false := decide_eq_false (by omega)
    clear hc q
    go_enter Tryz.func61, Tryz.ntmps61
    go_wp2_with fail
    have L := ((((L0.varD (w.heap.size) (by simp) (ng m) A (zl m) c e).varD (w.heap.size + 1) (by simp) (ng n) B (zl n) d f).varD (w.heap.size + 2) (by simp) (ng n2) C (zl n2) h f2).varD (w.heap.size + 3) (by simp) false none 0 0 0)
    obtain ⟨gr, hgr⟩ : ∃ gr, w.heap.size + 1 + 1 + 1 = gr := ⟨_, rfl⟩
    have hgr2 : w.heap.size + 3 = gr := hgr
    obtain ⟨gz, hgz⟩ : ∃ gz, w.heap.size + 1 + 1 = gz := ⟨_, rfl⟩
    have hgz2 : w.heap.size + 2 = gz := hgz
    rw [hgr2, hgz2] at L
    rw [hgr, hgz]
    have hgr3 : w.heap.size + 2 < gr := by omega
    have hgz3 : w.heap.size + 1 < gz := by omega
    have hgr4 : gz < gr := by omega
    clear hgr hgr2 hgz hgz2
    have c00 := L.b0.c30
    have f00 := L.b0.fr 0
    have c01 := L.b0.c31
    have f01 := L.b0.fr 1
    have c02 := L.b0.c32
    have f02 := L.b0.fr 2
    have c10 := L.tl.b0.c30
    have c11 := L.tl.b0.c31
    have c12 := L.tl.b0.c32
    have c20 := L.tl.tl.b0.c30
    have c21 := L.tl.tl.b0.c31
    have c22 := L.tl.tl.b0.c32
    have c30 := L.tl.tl.tl.b0.c30
    have c31 := L.tl.tl.tl.b0.c31
    have c32 := L.tl.tl.tl.b0.c32
    (try go_wp2_with fail)
    refine (HS.out _ _ (isD_n (m := m) (e := e) (s := .slice A (zl m) c) (L.getN (by simp)))).mono ?_
    rintro e w1 ⟨rfl, be⟩
    clear c00 f00 c01 f01 c02 f02 c10 c11 c12 c20 c21 c22 c30 c31 c32
    replace L := L.step be
    clear be
    have c00 := L.b0.c30
    have f00 := L.b0.fr 0
    have c01 := L.b0.c31
    have f01 := L.b0.fr 1
    have c02 := L.b0.c32
    have f02 := L.b0.fr 2
    have c10 := L.tl.b0.c30
    have c11 := L.tl.b0.c31
    have c12 := L.tl.b0.c32
    have c20 := L.tl.tl.b0.c30
    have c21 := L.tl.tl.b0.c31
    have c22 := L.tl.tl.b0.c32
    have c30 := L.tl.tl.tl.b0.c30
    have c31 := L.tl.tl.tl.b0.c31
    have c32 := L.tl.tl.tl.b0.c32
    (try go_wp2_with fail)
    have LP := L.putD (by omega) (by first | (simp; done) | (simp; omega)) (ng n2) C (zl n2) h (f2)
    have k0 := LP.b0.c30
    have k1 := LP.b0.c31
    have k2 := LP.b0.c32
    unfold put3 at k0 k1 k2
    exact bodyPost_ret (v := .agg #[.bool (ng n2), .slice C (zl n2) h, .int .i64 (f2)]) (by simp [results, Tryz.results61, go_sem, k0, k1, k2]) rfl ⟨_, rfl, isD_n (LP.getN (by simp)), LP.below⟩
set_option maxHeartbeats 8000000 in
theorem aquot_any (m e n f : Int) (vx vy : Value) (w : World) (hx : IsD w vx m e) (hy : IsD w vy n f) (lm : zl m ≤ 25) (ln : zl n ≤ 25) (he : -3000 ≤ e ∧ e ≤ 3000) (hf : -3000 ≤ f ∧ f ≤ 3000) (hn0 : n ≠ 0) :
    Calls Tryz.prog 60 #[vx, vy] w (RetP w (qtA m e n f) (qtD m e n f)) := by
  obtain ⟨A, c, rfl, hz1, hn1⟩ := hx.form
  obtain ⟨B, d, rfl, hz2, hn2⟩ := hy.form
  have L0 := ((((Lq.mk0 w).z hz2).z hz1).n hn2).n hn1
  have hs := fun v W h => dsign_any m e v W h (by omega)
  have hc : cmpI m 0 = 0 ↔ m = 0 := by unfold cmpI; (repeat' split) <;> omega
  obtain ⟨x, hx9⟩ : ∃ x, cmpI m 0 = x := ⟨_, rfl⟩
  rw [hx9] at hs hc
  have HS := Lib.hid hs
  clear hs hx9
  unfold qtA qtD
  by_cases q : m = 0
  · rw [if_pos q, if_pos q]
    have hx0 : x = 0 := hc.2 q
    have b1 : (x == 0) = true := by rw [hx0]; rfl
    have ho := fun W => pof_any 0 W (by omega) (by omega)
    have HO := Lib.hid (fun W => (show Calls Tryz.prog 103 #[.int .i64 0] W (RetP W 0 1) from ho W))
    clear ho hc q hx hy hz1 hz2 hn1 hn2 lm ln he hf hn0 hx0
    go_enter Tryz.func60, Tryz.ntmps60
    go_wp2_with fail
    have L := (((L0.varD (w.heap.size) (by simp) (ng m) A (zl m) c e).varD (w.heap.size + 1) (by simp) (ng n) B (zl n) d f).varQ (w.heap.size + 2) (by simp) false none none 0 0 0 0)
    obtain ⟨gr, hgr⟩ : ∃ gr, w.heap.size + 1 + 1 = gr := ⟨_, rfl⟩
    have hgr2 : w.heap.size + 2 = gr := hgr
    rw [hgr2] at L
    rw [hgr]
    have hgr3 : w.heap.size + 1 < gr := by omega
    clear hgr hgr2
    have c00 := L.b0.c30
    have f00 := L.b0.fr 0
    have c01 := L.b0.c31
    have f01 := L.b0.fr 1
    have c02 := L.b0.c32
    have f02 := L.b0.fr 2
    have c10 := L.tl.b0.c30
    have c11 := L.tl.b0.c31
    have c12 := L.tl.b0.c32
    have c20 := L.tl.tl.b0.c30
    have c21 := L.tl.tl.b0.c31
    have c22 := L.tl.tl.b0.c32
    (try go_wp2_with fail)
    refine (HS.out _ _ (isD_n (m := m) (e := e) (s := .slice A (zl m) c) (L.getN (by simp)))).mono ?_
    rintro e w1 ⟨rfl, be⟩
    clear c00 f00 c01 f01 c02 f02 c10 c11 c12 c20 c21 c22
    replace L := L.step be
    clear be
    have c00 := L.b0.c30
    have f00 := L.b0.fr 0
    have c01 := L.b0.c31
    have f01 := L.b0.fr 1
    have c02 := L.b0.c32
    have f02 := L.b0.fr 2
    have c10 := L.tl.b0.c30
    have c11 := L.tl.b0.c31
    have c12 := L.tl.b0.c32
    have c20 := L.tl.tl.b0.c30
    have c21 := L.tl.tl.b0.c31
    have c22 := L.tl.tl.b0.c32
    (try go_wp2_with fail)
    refine (HO.out _).mono ?_
    rintro e w2 ⟨vq, rfl, iq, be⟩
    clear c00 f00 c01 f01 c02 f02 c10 c11 c12 c20 c21 c22
    obtain ⟨A9, c9, B9, k9, rfl, _, _, _⟩ := iq.form
    replace L := (L.step be).q iq
    clear be iq
    have c00 := L.b0.c30
    have f00 := L.b0.fr 0
    have c01 := L.b0.c31
    have f01 := L.b0.fr 1
    have c02 := L.b0.c32
    have f02 := L.b0.fr 2
    have c10 := L.tl.b0.c30
    have c11 := L.tl.b0.c31
    have c12 := L.tl.b0.c32
    have c20 := L.tl.tl.b0.c30
    have c21 := L.tl.tl.b0.c31
    have c22 := L.tl.tl.b0.c32
    (try go_wp2_with fail)
    have LP := L.putQ (by omega) (by first | (simp; done) | (simp; omega)) (ng (0)) A9 B9 (zl (0)) c9 (len (1)) k9
    have k0 := LP.b0.c30
    have k1 := LP.b0.c31
    have k2 := LP.b0.c32
    unfold put3 at k0 k1 k2
    exact bodyPost_ret (v := .agg #[.bool (ng (0)), .slice A9 (zl (0)) c9, .slice B9 (len (1)) k9]) (by simp [results, Tryz.results60, go_sem, k0, k1, k2]) rfl ⟨_, rfl, LP.getQ (by simp), LP.below⟩
  · rw [if_neg q, if_neg q]
    have b1 : (x == 0) = false := by simpa using (fun h => q (hc.1 h))
    obtain ⟨z1, z2⟩ := qt_low (m := m) hn0
    have hm := fun v u W h1 h2 => pmake_any m n v u W h1 h2 (by omega) (by omega) hn0
    obtain ⟨p, hp⟩ : ∃ p, (Rat.divInt m n).num = p := ⟨_, rfl⟩
    obtain ⟨r, hr⟩ : ∃ r, (Rat.divInt m n).den = r := ⟨_, rfl⟩
    rw [hp] at hm z1 ⊢
    rw [hr] at hm z2 ⊢
    obtain ⟨s, hs⟩ : ∃ s, e - f = s := ⟨_, rfl⟩
    have hs2 : f - e = -s := by omega
    rw [hs, hs2]
    have w1 : IntKind.i64.wrap (e - f) = s := by rw [hs, IntKind.wrap_i64]; omega
    have w2 : IntKind.i64.wrap (-s) = -s := by rw [IntKind.wrap_i64]; omega
    have zr : zl ((r : Nat) : Int) ≤ 25 := by show len r ≤ 25; omega
    have n1 := fun v W h => anum_any p s v W h (by omega) (by omega)
    have n2 := fun v W h => anum_any ((r : Nat) : Int) (-s) v W h (by omega) (by omega)
    have hc2 : ((r : Nat) : Int) * 2 ^ (-s).toNat = ((r * 2 ^ (-s).toNat : Nat) : Int) := by rw [Int.natCast_mul, cast2]
    rw [hc2] at n2
    obtain ⟨a9, ha9⟩ : ∃ a9, p * 2 ^ s.toNat = a9 := ⟨_, rfl⟩
    obtain ⟨d9, hd9⟩ : ∃ d9, r * 2 ^ (-s).toNat = d9 := ⟨_, rfl⟩
    rw [ha9] at n1 ⊢
    rw [hd9] at n2 ⊢
    have HM := Lib.hid hm
    have N1 := Lib.hid n1
    have N2 := Lib.hid n2
    have hfd : ∀ (x : Bool) (E : Option Addr) (n1 n2 : Nat) (W : World), (Instr.field 24 (.agg #[.bool x, .slice E n1 n2]) 1).run Tryz.prog W = .ok (.slice E n1 n2) W := fun _ _ _ _ _ => by kernel_rfl
    clear hm n1 n2 hp hr hs hs2 z1 z2 zr hc2 ha9 hd9 hc q hx hy hz1 hz2 hn1 hn2 lm ln he hf hn0
    go_enter Tryz.func60, Tryz.ntmps60
    go_wp2_with fail
    have L := (((L0.varD (w.heap.size) (by simp) (ng m) A (zl m) c e).varD (w.heap.size + 1) (by simp) (ng n) B (zl n) d f).varQ (w.heap.size + 2) (by simp) false none none 0 0 0 0)
    obtain ⟨gr, hgr⟩ : ∃ gr, w.heap.size + 1 + 1 = gr := ⟨_, rfl⟩
    have hgr2 : w.heap.size + 2 = gr := hgr
    rw [hgr2] at L
    rw [hgr]
    have hgr3 : w.heap.size + 1 < gr := by omega
    clear hgr hgr2
    have c00 := L.b0.c30
    have f00 := L.b0.fr 0
    have c01 := L.b0.c31
    have f01 := L.b0.fr 1
    have c02 := L.b0.c32
    have f02 := L.b0.fr 2
    have c10 := L.tl.b0.c30
    have c11 := L.tl.b0.c31
    have c12 := L.tl.b0.c32
    have c20 := L.tl.tl.b0.c30
    have c21 := L.tl.tl.b0.c31
    have c22 := L.tl.tl.b0.c32
    (try go_wp2_with fail)
    refine (HS.out _ _ (isD_n (m := m) (e := e) (s := .slice A (zl m) c) (L.getN (by simp)))).mono ?_
    rintro e w1 ⟨rfl, be⟩
    clear c00 f00 c01 f01 c02 f02 c10 c11 c12 c20 c21 c22
    replace L := L.step be
    clear be
    have c00 := L.b0.c30
    have f00 := L.b0.fr 0
    have c01 := L.b0.c31
    have f01 := L.b0.fr 1
    have c02 := L.b0.c32
    have f02 := L.b0.fr 2
    have c10 := L.tl.b0.c30
    have c11 := L.tl.b0.c31
    have c12 := L.tl.b0.c32
    have c20 := L.tl.tl.b0.c30
    have c21 := L.tl.tl.b0.c31
    have c22 := L.tl.tl.b0.c32
    (try go_wp2_with fail)
    refine (HM.out _ _ _ (L.getZ (v := .agg #[.bool (ng m), .slice A (zl m) c]) (by simp)) (L.getZ (v := .agg #[.bool (ng n), .slice B (zl n) d]) (by simp))).mono ?_
    rintro e w2 ⟨vq, rfl, iq, be⟩
    clear c00 f00 c01 f01 c02 f02 c10 c11 c12 c20 c21 c22
    obtain ⟨A8, c8, B8, k8, rfl, iz8, _, in8⟩ := iq.form
    replace L := ((L.step be).z (isZ_nat in8)).z iz8
    clear be iq iz8 in8
    have hl8 := L.b0.lt
    have g8n : gr ≠ w2.heap.size := by omega
    replace L := L.varQ w2.heap.size rfl (ng p) A8 B8 (zl p) c8 (len r) k8
    have c00 := L.b0.c30
    have c01 := L.b0.c31
    have c02 := L.b0.c32
    have c20 := L.tl.tl.b0.c30
    have c21 := L.tl.tl.b0.c31
    have c22 := L.tl.tl.b0.c32
    have c30 := L.tl.tl.tl.b0.c30
    have c31 := L.tl.tl.tl.b0.c31
    have c32 := L.tl.tl.tl.b0.c32
    go_wp2_with fail
    replace L := L.swap.drew
    clear c00 c01 c02 c20 c21 c22 c30 c31 c32
    have c00 := L.b0.c30
    have f00 := L.b0.fr 0
    have c01 := L.b0.c31
    have f01 := L.b0.fr 1
    have c02 := L.b0.c32
    have f02 := L.b0.fr 2
    have c10 := L.tl.b0.c30
    have c11 := L.tl.b0.c31
    have c12 := L.tl.b0.c32
    go_region_held3 (fun w' => w'.cell? ⟨w2.heap.size, 0, none⟩ = some (.bool (ng p)) ∧ w'.cell? ⟨w2.heap.size, 1, none⟩ = some (.slice A8 (zl p) c8) ∧ w'.cell? ⟨w2.heap.size, 2, none⟩ = some (.slice B8 (len r) k8)) (first | (with_reducible exact ⟨L.tl.b0.c30, L.tl.b0.c31, L.tl.b0.c32⟩) | exact ⟨L.tl.b0.c30, L.tl.b0.c31, L.tl.b0.c32⟩ | (have LP := L.putQ (by omega) (by first | (simp; done) | (simp; omega)) (ng a9) A9 B9 (zl a9) c9 (zl (d9 : Int)) k9; exact ⟨LP.tl.b0.c30, LP.tl.b0.c31, LP.tl.b0.c32⟩)) (first | (go_at_call 105; (with_reducible refine (N1.out _ _ ?_ ).mono ?_); (· (refine L.getZ ?_; (repeat (first | (with_reducible exact List.mem_cons_self) | apply List.mem_cons_of_mem)))); rintro e wh ⟨vh, rfl, iz, be⟩; obtain ⟨A9, c9, rfl, in9⟩ := iz.form; replace L := (L.step be).n in9; clear be iz in9; (try (have x00 := L.b0.c30; have x01 := L.b0.c31; have x02 := L.b0.c32; have y00 := L.b0.fr 0; have y01 := L.b0.fr 1; have y02 := L.b0.fr 2))) | (go_at_call 105; (with_reducible refine (N2.out _ _ ?_ ).mono ?_); (· (refine L.getZ ?_; (repeat (first | (with_reducible exact List.mem_cons_self) | apply List.mem_cons_of_mem)))); rintro e wh ⟨vh, rfl, iz, be⟩; obtain ⟨B9, k9, rfl, in9⟩ := iz.form; replace L := (L.step be).n in9; clear be iz in9; (try (have x00 := L.b0.c30; have x01 := L.b0.c31; have x02 := L.b0.c32; have y00 := L.b0.fr 0; have y01 := L.b0.fr 1; have y02 := L.b0.fr 2))))
    clear c00 f00 c01 f01 c02 f02 c10 c11 c12
    go_wp2_with fail
    have LP := L.putQ (by omega) (by first | (simp; done) | (simp; omega)) (ng a9) A9 B9 (zl a9) c9 (zl (d9 : Int)) k9
    have k0 := LP.b0.c30
    have k1 := LP.b0.c31
    have k2 := LP.b0.c32
    unfold put3 at k0 k1 k2
    exact bodyPost_ret (v := .agg #[.bool (ng a9), .slice A9 (zl a9) c9, .slice B9 (zl (d9 : Int)) k9]) (by simp [results, Tryz.results60, go_sem, k0, k1, k2]) rfl ⟨_, rfl, ⟨_, _, rfl, LP.getN (by simp), (show IsN _ _ (d9 : Int).natAbs from LP.getN (by simp))⟩, LP.below⟩
set_option maxHeartbeats 8000000 in
theorem aconst_any (a : Int) (d : Nat) (k : Int) (vx : Value) (w : World) (hx : IsP w vx a d) (la : zl a ≤ 800) (ld : len d ≤ 800) (hd : 0 < d) (hk1 : -9223372036854775808 ≤ k) (hk2 : k ≤ 9223372036854775807) (hT : Tab w) :
    Calls Tryz.prog 26 #[vx, .int .i64 k] w (RetEn w (Rat.divInt a (d : Int)) (Rat.divInt a (d : Int)) k) := by
  obtain ⟨A, c, B, i, rfl, _, _, _⟩ := hx.form
  have L0 := (Lq.mk0 w).q hx
  have HW0 := fun W => aperm_any k W
  cases hw : workB k
  · rw [hw] at HW0
    have HW := Lib.hid HW0
    have HWK := Lib.hid hw
    clear HW0 hw hx la ld hd hk1 hk2 hT
    go_enter Tryz.func26, Tryz.ntmps26
    go_wp2_with fail
    have L := ((L0.varQ (w.heap.size) (by simp) (ng a) A B (zl a) c (len d) i).varI (w.heap.size + 1) (by simp) false none 0 0 0 false none 0 0 0)
    have c00 := L.b0.c60
    have f00 := L.b0.fr 0
    have c01 := L.b0.c61
    have f01 := L.b0.fr 1
    have c02 := L.b0.c62
    have f02 := L.b0.fr 2
    have c03 := L.b0.c63
    have f03 := L.b0.fr 3
    have c04 := L.b0.c64
    have f04 := L.b0.fr 4
    have c05 := L.b0.c65
    have f05 := L.b0.fr 5
    have c10 := L.tl.b0.c30
    have c11 := L.tl.b0.c31
    have c12 := L.tl.b0.c32
    (try go_wp2_with fail)
    refine (HW.out _).mono ?_
    rintro e9 w' ⟨rfl, rfl⟩
    (try go_wp2_with fail)
    exact bodyPost_ret (v := .tuple #[.agg #[.bool false, .slice none 0 0, .int .i64 0, .bool false, .slice none 0 0, .int .i64 0], .int .i64 1]) (by simp [results, Tryz.results26, go_sem, c00, c01, c02, c03, c04, c05]) rfl (by unfold RetEn; rw [if_neg (by rw [HWK.out]; decide)]; exact ⟨_, rfl, isI_zero _, L.below⟩)
  · rw [hw] at HW0
    have HW := Lib.hid HW0
    have HE := Lib.hid (fun v u W h1 h2 (hW : Below w.heap.size w W) => aenclR_any a d a d k v u W h1 h2 la ld hd la ld hd hw (hT.mono hW))
    generalize Rat.divInt a (d : Int) = q at *
    clear HW0 hw hx la ld hd hk1 hk2 hT
    go_enter Tryz.func26, Tryz.ntmps26
    go_wp2_with fail
    have L := ((L0.varQ (w.heap.size) (by simp) (ng a) A B (zl a) c (len d) i).varI (w.heap.size + 1) (by simp) false none 0 0 0 false none 0 0 0)
    have c00 := L.b0.c60
    have f00 := L.b0.fr 0
    have c01 := L.b0.c61
    have f01 := L.b0.fr 1
    have c02 := L.b0.c62
    have f02 := L.b0.fr 2
    have c03 := L.b0.c63
    have f03 := L.b0.fr 3
    have c04 := L.b0.c64
    have f04 := L.b0.fr 4
    have c05 := L.b0.c65
    have f05 := L.b0.fr 5
    have c10 := L.tl.b0.c30
    have c11 := L.tl.b0.c31
    have c12 := L.tl.b0.c32
    (try go_wp2_with fail)
    refine (HW.out _).mono ?_
    rintro e9 w' ⟨rfl, rfl⟩
    (try go_wp2_with fail)
    refine (HE.out _ _ _ (L.getQ (v := .agg #[.bool (ng a), .slice A (zl a) c, .slice B (len d) i]) (a := a) (d := d) (by simp)) (L.getQ (v := .agg #[.bool (ng a), .slice A (zl a) c, .slice B (len d) i]) (a := a) (d := d) (by simp)) L.below).mono ?_
    intro e9 w19 hen
    obtain ⟨v19, er, m9, e9', n9, f9, rfl, ii, be, hback⟩ := hen.form
    obtain ⟨A5, c5, B5, d5, rfl, ia, ib⟩ := ii.form
    replace L := (((L.step be).n ib).n ia)
    clear be ii ia ib hen
    have HBK := Lib.hid hback
    clear hback
    clear c00 f00 c01 f01 c02 f02 c03 f03 c04 f04 c05 f05 c10 c11 c12
    have c00 := L.b0.c60
    have f00 := L.b0.fr 0
    have c01 := L.b0.c61
    have f01 := L.b0.fr 1
    have c02 := L.b0.c62
    have f02 := L.b0.fr 2
    have c03 := L.b0.c63
    have f03 := L.b0.fr 3
    have c04 := L.b0.c64
    have f04 := L.b0.fr 4
    have c05 := L.b0.c65
    have f05 := L.b0.fr 5
    go_wp2_with fail
    have LP := L.putI (by omega) (by first | (simp; done) | (simp; omega)) (ng m9) A5 (zl m9) c5 e9' (ng n9) B5 (zl n9) d5 f9
    have k0' := LP.b0.c60
    have k1' := LP.b0.c61
    have k2' := LP.b0.c62
    have k3' := LP.b0.c63
    have k4' := LP.b0.c64
    have k5' := LP.b0.c65
    unfold put6 at k0' k1' k2' k3' k4' k5'
    exact bodyPost_ret (v := .tuple #[.agg #[.bool (ng m9), .slice A5 (zl m9) c5, .int .i64 e9', .bool (ng n9), .slice B5 (zl n9) d5, .int .i64 f9], .int .i64 er]) (by simp [results, Tryz.results26, go_sem, k0', k1', k2', k3', k4', k5']) rfl (HBK.out _ _ _ (isI_n (LP.getN (by simp)) (LP.getN (by simp))) LP.below)

end Go.Proofs.YtoobcngbnjeddaaGreatDoor
