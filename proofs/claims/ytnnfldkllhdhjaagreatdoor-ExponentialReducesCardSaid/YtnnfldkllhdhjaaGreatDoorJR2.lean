/- Joined: ArPF, ArDv, ArPHp, CoA, RefCoA, RefExA, ExPA, ExPB, ExPW, ExY, RdA, RdB, ExPC, ExF, RefCoC, RefCoD, RefCoE (what the law leans on). -/
import Derived.Test.YtnnfldkllhdhjaaGreatDoorBaseJR
import Derived.Test.YtnnfldkllhdhjaaGreatDoorBaseER
import Derived.Test.YtnnfldkllhdhjaaGreatDoorBaseMR
import Derived.Test.YtnnfldkllhdhjaaGreatDoorBaseVR
import Derived.Test.YtnnfldkllhdhjaaGreatDoorBaseGR
import Derived.Test.YtnnfldkllhdhjaaGreatDoorBaseSR
import Derived.Test.YtnnfldkllhdhjaaGreatDoorRefDivModR
import Derived.Test.YtnnfldkllhdhjaaGreatDoorRefGrAR
import Derived.Test.YtnnfldkllhdhjaaGreatDoorBaseWR
import Derived.Test.YtnnfldkllhdhjaaGreatDoorBaseXR
import Derived.Test.YtnnfldkllhdhjaaGreatDoorGrPCR
import Derived.Test.YtnnfldkllhdhjaaGreatDoorBaseUR
import Derived.Test.YtnnfldkllhdhjaaGreatDoorJR1
import Derived.BigQuiet
import Derived.Deep.Cut
import Derived.Deep.CutRange
import Derived.Deep.DrawnRows
import Derived.Deep.QuietTactic
import Derived.Deep.RegionHeld3
import Derived.Deep.RegionWith
namespace Go.Proofs.YtnnfldkllhdhjaaGreatDoor
open Go.RowKit
set_option linter.unusedVariables false
set_option linter.unusedSimpArgs false
set_option maxRecDepth 100000
attribute [local go_sem ↓] Go.wp_at_zero Go.wp_at_succ
def qtA (m e n f : Int) : Int:=if m = 0 then 0 else (Rat.divInt m n).num * 2 ^ (e - f).toNat
def qtD (m e n f : Int) : Nat:=if m = 0 then 1 else (Rat.divInt m n).den * 2 ^ (f - e).toNat
theorem qt_pos (m e n f : Int) : 0 < qtD m e n f:=by
 unfold qtD
 split
 ·omega
 ·exact Nat.mul_pos (Rat.den_pos _) (Nat.pow_pos (by omega))
theorem dq_pow (m e : Int) : dq m e = (m : Rat) * dq 1 e:=dq_scale m e
theorem dq_one_sub (e f : Int) : dq 1 (e - f) * dq 1 f = dq 1 e:=by
 rw [← dq_mul, Int.mul_one]
 congr 1
 omega
theorem divInt_mul_r (a : Int) (d : Nat) (x y : Nat) (hx : 0 < x) (hy : 0 < y) (hd : 0 < d) : Rat.divInt (a * (x : Int)) ((d * y : Nat) : Int) = Rat.divInt a (d : Int) * Rat.divInt (x : Int) (y : Int):=by
 rw [Rat.divInt_mul_divInt]
 congr 1
theorem qt_val {m e n f : Int} (hn : n ≠ 0) : Rat.divInt (qtA m e n f) (qtD m e n f : Int) = dq m e / dq n f:=by
 have hn0 : (n : Rat) ≠ 0:=fun h => hn (Rat.intCast_eq_zero_iff.1 h)
 have hp:=dq_pos f
 have hpn : dq 1 f ≠ 0:=fun h => by rw [h] at hp; exact Rat.not_le.2 hp Rat.le_refl
 by_cases h0 : m = 0
 ·unfold qtA qtD
  rw [if_pos h0, if_pos h0, h0, dq_pow 0 e, Rat.intCast_zero, Rat.zero_mul, Rat.div_def, Rat.zero_mul]
  rfl
 ·unfold qtA qtD
  rw [if_neg h0, if_neg h0]
  have e1 : (2 : Int) ^ (e - f).toNat = ((2 ^ (e - f).toNat : Nat) : Int):=(cast2 _).symm
  rw [e1, divInt_mul_r _ _ _ _ (Nat.pow_pos (by omega)) (Nat.pow_pos (by omega)) (Rat.den_pos _), Rat.num_divInt_den]
  have e2 : Rat.divInt ((2 ^ (e - f).toNat : Nat) : Int) ((2 ^ (f - e).toNat : Nat) : Int) = dq 1 (e - f):=by
   unfold dq
   rw [Int.one_mul, cast2, show -(e - f) = f - e from by omega]
  rw [e2, dq_pow m e, dq_pow n f, ← dq_one_sub e f, Rat.div_def, Rat.inv_mul_rev]
  have e3 : Rat.divInt m n = (m : Rat) * (n : Rat)⁻¹:=by rw [← Rat.div_def]; exact Rat.divInt_eq_div m n
  rw [e3]
  have e4 : dq 1 f * (dq 1 f)⁻¹ = 1:=Rat.mul_inv_cancel _ hpn
  rw [show (m : Rat) * (dq 1 (e - f) * dq 1 f) * ((dq 1 f)⁻¹ * (n : Rat)⁻¹) = (m : Rat) * (dq 1 (e - f) * (dq 1 f * (dq 1 f)⁻¹) * (n : Rat)⁻¹) from by simp only [Rat.mul_assoc], e4, Rat.mul_one, Rat.mul_assoc, Rat.mul_comm (n : Rat)⁻¹]
theorem qt_low {m n : Int} (hn : n ≠ 0) : zl (Rat.divInt m n).num ≤ zl m ∧ len (Rat.divInt m n).den ≤ zl n:=by
 obtain ⟨e1, e2⟩:=divInt_pair m n hn
 constructor
 ·unfold zl
  rw [e1]
  exact len_mono (by rw [sg_abs]; exact Nat.div_le_self _ _)
 ·unfold zl
  rw [e2]
  exact len_mono (Nat.div_le_self _ _)
theorem qt_small {m e n f : Int} (hn : n ≠ 0) (lm : zl m ≤ 25) (ln : zl n ≤ 25) (he : -3000 ≤ e ∧ e ≤ 3000) (hf : -3000 ≤ f ∧ f ≤ 3000) : zl (qtA m e n f) ≤ 800 ∧ len (qtD m e n f) ≤ 800:=by
 obtain ⟨h1, h2⟩:=qt_low (m:=m) hn
 unfold qtA qtD
 constructor
 ·split
  ·rw [zl_zero]; omega
  ·have:=zl_two (Rat.divInt m n).num (e - f).toNat
   omega
 ·split
  ·have:=len_le1 (show 1 < 4294967296 by omega)
   omega
  ·have h3:=len_mul (Rat.divInt m n).den (2 ^ (f - e).toNat)
   have h4:=len_two (f - e).toNat
   omega

set_option maxHeartbeats 4000000 in
theorem anum_any (z e : Int) (vx : Value) (w : World) (hx : IsZ w vx z) (lz : zl z ≤ 1000) (he : -20000 ≤ e ∧ e ≤ 20000) :
  Calls Tryz.prog 185 #[vx, .int .i64 e] w (RetZ w (z * 2 ^ e.toNat)):=by
 obtain ⟨A, c, rfl, _⟩:=hx.form
 have L0:=(Lq.mk0 w).z hx
 have HR:=Lib.hid (fun v W h => drat_any z e v W h (by omega) (by omega))
 have hfd : ∀ (x : Bool) (E F : Option Addr) (n1 n2 n3 n4 : Nat) (W : World), (Instr.field 55 (.agg #[.bool x, .slice E n1 n2, .slice F n3 n4]) 0).run Tryz.prog W = .ok (.agg #[.bool x, .slice E n1 n2]) W:=fun _ _ _ _ _ _ _ _ => by kernel_rfl
 generalize z * 2 ^ e.toNat = a at *
 generalize 2 ^ (-e).toNat = d at *
 clear hx lz he
 go_enter Tryz.func185, Tryz.ntmps185
 go_wp2_with fail
 have L:=((L0.varZ (w.heap.size) (by simp) (ng z) A (zl z) c).varZ (w.heap.size + 1) (by simp) false none 0 0)
 have c00:=L.b0.c20
 have f00:=L.b0.fr 0
 have c01:=L.b0.c21
 have f01:=L.b0.fr 1
 have c10:=L.tl.b0.c20
 have c11:=L.tl.b0.c21
 (try go_wp2_with fail)
 refine (HR.out _ _ (isD_z (L.getZ (v:=.agg #[.bool (ng z), .slice A (zl z) c]) (by simp)))).mono ?_
 rintro e w1 ⟨vq, rfl, iq, be⟩
 clear c00 f00 c01 f01 c10 c11
 obtain ⟨A9, c9, B9, k9, rfl, iz9, _, _⟩:=iq.form
 replace L:=(L.step be).z iz9
 clear be iq iz9
 have c00:=L.b0.c20
 have f00:=L.b0.fr 0
 have c01:=L.b0.c21
 have f01:=L.b0.fr 1
 have c10:=L.tl.b0.c20
 have c11:=L.tl.b0.c21
 (try go_wp2_with fail)
 have LP:=L.putZ (by omega) (by first | (simp; done) | (simp; omega)) (ng a) A9 (zl a) c9
 have k0:=LP.b0.c20
 have k1:=LP.b0.c21
 unfold put2 at k0 k1
 exact bodyPost_ret (v:=.agg #[.bool (ng a), .slice A9 (zl a) c9]) (by simp [results, Tryz.results185, go_sem, k0, k1]) rfl ⟨_, rfl, LP.getZ (by simp), LP.below⟩
set_option maxHeartbeats 4000000 in
theorem absign_any (m e n f n2 f2 : Int) (vx vy vz : Value) (w : World) (hx : IsD w vx m e) (hy : IsD w vy n f) (hz : IsD w vz n2 f2) (lm : zl m ≤ 1000) :
  Calls Tryz.prog 145 #[vx, vy, vz] w (RetD8 w (if m < 0 then n else n2) (if m < 0 then f else f2)):=by
 obtain ⟨A, c, rfl, _, hn1⟩:=hx.form
 obtain ⟨B, d, rfl, _, hn2⟩:=hy.form
 obtain ⟨C, h, rfl, _, hn3⟩:=hz.form
 have L0:=(((Lq.mk0 w).n hn3).n hn2).n hn1
 have hs:=fun v W h => dsign_any m e v W h (by omega)
 have hc : cmpI m 0 < 0 ↔ m < 0:=by unfold cmpI; (repeat' split) <;> omega
 obtain ⟨x, hx9⟩ : ∃ x, cmpI m 0 = x:=⟨_, rfl⟩
 rw [hx9] at hs hc
 have HS:=Lib.hid hs
 clear hs hx9 hx hy hz hn1 hn2 hn3 lm
 by_cases q : m < 0
 ·rw [if_pos q, if_pos q]
  have b1 : decide (x < 0) = true:=decide_eq_true (by omega)
  clear hc q
  go_enter Tryz.func145, Tryz.ntmps145
  go_wp2_with fail
  have L:=((((L0.varD (w.heap.size) (by simp) (ng m) A (zl m) c e).varD (w.heap.size + 1) (by simp) (ng n) B (zl n) d f).varD (w.heap.size + 2) (by simp) (ng n2) C (zl n2) h f2).varD (w.heap.size + 3) (by simp) false none 0 0 0)
  obtain ⟨gr, hgr⟩ : ∃ gr, w.heap.size + 1 + 1 + 1 = gr:=⟨_, rfl⟩
  have hgr2 : w.heap.size + 3 = gr:=hgr
  obtain ⟨gz, hgz⟩ : ∃ gz, w.heap.size + 1 + 1 = gz:=⟨_, rfl⟩
  have hgz2 : w.heap.size + 2 = gz:=hgz
  rw [hgr2, hgz2] at L
  rw [hgr, hgz]
  have hgr3 : w.heap.size + 2 < gr:=by omega
  have hgz3 : w.heap.size + 1 < gz:=by omega
  have hgr4 : gz < gr:=by omega
  clear hgr hgr2 hgz hgz2
  have c00:=L.b0.c30
  have f00:=L.b0.fr 0
  have c01:=L.b0.c31
  have f01:=L.b0.fr 1
  have c02:=L.b0.c32
  have f02:=L.b0.fr 2
  have c10:=L.tl.b0.c30
  have c11:=L.tl.b0.c31
  have c12:=L.tl.b0.c32
  have c20:=L.tl.tl.b0.c30
  have c21:=L.tl.tl.b0.c31
  have c22:=L.tl.tl.b0.c32
  have c30:=L.tl.tl.tl.b0.c30
  have c31:=L.tl.tl.tl.b0.c31
  have c32:=L.tl.tl.tl.b0.c32
  (try go_wp2_with fail)
  refine (HS.out _ _ (isD_n (m:=m) (e:=e) (s:=.slice A (zl m) c) (L.getN (by simp)))).mono ?_
  rintro e w1 ⟨rfl, be⟩
  clear c00 f00 c01 f01 c02 f02 c10 c11 c12 c20 c21 c22 c30 c31 c32
  replace L:=L.step be
  clear be
  have c00:=L.b0.c30
  have f00:=L.b0.fr 0
  have c01:=L.b0.c31
  have f01:=L.b0.fr 1
  have c02:=L.b0.c32
  have f02:=L.b0.fr 2
  have c10:=L.tl.b0.c30
  have c11:=L.tl.b0.c31
  have c12:=L.tl.b0.c32
  have c20:=L.tl.tl.b0.c30
  have c21:=L.tl.tl.b0.c31
  have c22:=L.tl.tl.b0.c32
  have c30:=L.tl.tl.tl.b0.c30
  have c31:=L.tl.tl.tl.b0.c31
  have c32:=L.tl.tl.tl.b0.c32
  (try go_wp2_with fail)
  have LP:=L.putD (by omega) (by first | (simp; done) | (simp; omega)) (ng n) B (zl n) d (f)
  have k0:=LP.b0.c30
  have k1:=LP.b0.c31
  have k2:=LP.b0.c32
  unfold put3 at k0 k1 k2
  exact bodyPost_ret (v:=.agg #[.bool (ng n), .slice B (zl n) d, .int .i64 (f)]) (by simp [results, Tryz.results145, go_sem, k0, k1, k2]) rfl ⟨_, rfl, isD_n (LP.getN (by simp)), LP.below⟩
 ·rw [if_neg q, if_neg q]
  have b1 : decide (x < 0) = false:=decide_eq_false (by omega)
  clear hc q
  go_enter Tryz.func145, Tryz.ntmps145
  go_wp2_with fail
  have L:=((((L0.varD (w.heap.size) (by simp) (ng m) A (zl m) c e).varD (w.heap.size + 1) (by simp) (ng n) B (zl n) d f).varD (w.heap.size + 2) (by simp) (ng n2) C (zl n2) h f2).varD (w.heap.size + 3) (by simp) false none 0 0 0)
  obtain ⟨gr, hgr⟩ : ∃ gr, w.heap.size + 1 + 1 + 1 = gr:=⟨_, rfl⟩
  have hgr2 : w.heap.size + 3 = gr:=hgr
  obtain ⟨gz, hgz⟩ : ∃ gz, w.heap.size + 1 + 1 = gz:=⟨_, rfl⟩
  have hgz2 : w.heap.size + 2 = gz:=hgz
  rw [hgr2, hgz2] at L
  rw [hgr, hgz]
  have hgr3 : w.heap.size + 2 < gr:=by omega
  have hgz3 : w.heap.size + 1 < gz:=by omega
  have hgr4 : gz < gr:=by omega
  clear hgr hgr2 hgz hgz2
  have c00:=L.b0.c30
  have f00:=L.b0.fr 0
  have c01:=L.b0.c31
  have f01:=L.b0.fr 1
  have c02:=L.b0.c32
  have f02:=L.b0.fr 2
  have c10:=L.tl.b0.c30
  have c11:=L.tl.b0.c31
  have c12:=L.tl.b0.c32
  have c20:=L.tl.tl.b0.c30
  have c21:=L.tl.tl.b0.c31
  have c22:=L.tl.tl.b0.c32
  have c30:=L.tl.tl.tl.b0.c30
  have c31:=L.tl.tl.tl.b0.c31
  have c32:=L.tl.tl.tl.b0.c32
  (try go_wp2_with fail)
  refine (HS.out _ _ (isD_n (m:=m) (e:=e) (s:=.slice A (zl m) c) (L.getN (by simp)))).mono ?_
  rintro e w1 ⟨rfl, be⟩
  clear c00 f00 c01 f01 c02 f02 c10 c11 c12 c20 c21 c22 c30 c31 c32
  replace L:=L.step be
  clear be
  have c00:=L.b0.c30
  have f00:=L.b0.fr 0
  have c01:=L.b0.c31
  have f01:=L.b0.fr 1
  have c02:=L.b0.c32
  have f02:=L.b0.fr 2
  have c10:=L.tl.b0.c30
  have c11:=L.tl.b0.c31
  have c12:=L.tl.b0.c32
  have c20:=L.tl.tl.b0.c30
  have c21:=L.tl.tl.b0.c31
  have c22:=L.tl.tl.b0.c32
  have c30:=L.tl.tl.tl.b0.c30
  have c31:=L.tl.tl.tl.b0.c31
  have c32:=L.tl.tl.tl.b0.c32
  (try go_wp2_with fail)
  have LP:=L.putD (by omega) (by first | (simp; done) | (simp; omega)) (ng n2) C (zl n2) h (f2)
  have k0:=LP.b0.c30
  have k1:=LP.b0.c31
  have k2:=LP.b0.c32
  unfold put3 at k0 k1 k2
  exact bodyPost_ret (v:=.agg #[.bool (ng n2), .slice C (zl n2) h, .int .i64 (f2)]) (by simp [results, Tryz.results145, go_sem, k0, k1, k2]) rfl ⟨_, rfl, isD_n (LP.getN (by simp)), LP.below⟩
set_option maxHeartbeats 8000000 in
theorem aquot_any (m e n f : Int) (vx vy : Value) (w : World) (hx : IsD w vx m e) (hy : IsD w vy n f) (lm : zl m ≤ 25) (ln : zl n ≤ 25) (he : -3000 ≤ e ∧ e ≤ 3000) (hf : -3000 ≤ f ∧ f ≤ 3000) (hn0 : n ≠ 0) :
  Calls Tryz.prog 144 #[vx, vy] w (RetP w (qtA m e n f) (qtD m e n f)):=by
 obtain ⟨A, c, rfl, hz1, hn1⟩:=hx.form
 obtain ⟨B, d, rfl, hz2, hn2⟩:=hy.form
 have L0:=((((Lq.mk0 w).z hz2).z hz1).n hn2).n hn1
 have hs:=fun v W h => dsign_any m e v W h (by omega)
 have hc : cmpI m 0 = 0 ↔ m = 0:=by unfold cmpI; (repeat' split) <;> omega
 obtain ⟨x, hx9⟩ : ∃ x, cmpI m 0 = x:=⟨_, rfl⟩
 rw [hx9] at hs hc
 have HS:=Lib.hid hs
 clear hs hx9
 unfold qtA qtD
 by_cases q : m = 0
 ·rw [if_pos q, if_pos q]
  have hx0 : x = 0:=hc.2 q
  have b1 : (x == 0) = true:=by rw [hx0]; rfl
  have ho:=fun W => pof_any 0 W (by omega) (by omega)
  have HO:=Lib.hid (fun W => (show Calls Tryz.prog 155 #[.int .i64 0] W (RetP W 0 1) from ho W))
  clear ho hc q hx hy hz1 hz2 hn1 hn2 lm ln he hf hn0 hx0
  go_enter Tryz.func144, Tryz.ntmps144
  go_wp2_with fail
  have L:=(((L0.varD (w.heap.size) (by simp) (ng m) A (zl m) c e).varD (w.heap.size + 1) (by simp) (ng n) B (zl n) d f).varQ (w.heap.size + 2) (by simp) false none none 0 0 0 0)
  obtain ⟨gr, hgr⟩ : ∃ gr, w.heap.size + 1 + 1 = gr:=⟨_, rfl⟩
  have hgr2 : w.heap.size + 2 = gr:=hgr
  rw [hgr2] at L
  rw [hgr]
  have hgr3 : w.heap.size + 1 < gr:=by omega
  clear hgr hgr2
  have c00:=L.b0.c30
  have f00:=L.b0.fr 0
  have c01:=L.b0.c31
  have f01:=L.b0.fr 1
  have c02:=L.b0.c32
  have f02:=L.b0.fr 2
  have c10:=L.tl.b0.c30
  have c11:=L.tl.b0.c31
  have c12:=L.tl.b0.c32
  have c20:=L.tl.tl.b0.c30
  have c21:=L.tl.tl.b0.c31
  have c22:=L.tl.tl.b0.c32
  (try go_wp2_with fail)
  refine (HS.out _ _ (isD_n (m:=m) (e:=e) (s:=.slice A (zl m) c) (L.getN (by simp)))).mono ?_
  rintro e w1 ⟨rfl, be⟩
  clear c00 f00 c01 f01 c02 f02 c10 c11 c12 c20 c21 c22
  replace L:=L.step be
  clear be
  have c00:=L.b0.c30
  have f00:=L.b0.fr 0
  have c01:=L.b0.c31
  have f01:=L.b0.fr 1
  have c02:=L.b0.c32
  have f02:=L.b0.fr 2
  have c10:=L.tl.b0.c30
  have c11:=L.tl.b0.c31
  have c12:=L.tl.b0.c32
  have c20:=L.tl.tl.b0.c30
  have c21:=L.tl.tl.b0.c31
  have c22:=L.tl.tl.b0.c32
  (try go_wp2_with fail)
  refine (HO.out _).mono ?_
  rintro e w2 ⟨vq, rfl, iq, be⟩
  clear c00 f00 c01 f01 c02 f02 c10 c11 c12 c20 c21 c22
  obtain ⟨A9, c9, B9, k9, rfl, _, _, _⟩:=iq.form
  replace L:=(L.step be).q iq
  clear be iq
  have c00:=L.b0.c30
  have f00:=L.b0.fr 0
  have c01:=L.b0.c31
  have f01:=L.b0.fr 1
  have c02:=L.b0.c32
  have f02:=L.b0.fr 2
  have c10:=L.tl.b0.c30
  have c11:=L.tl.b0.c31
  have c12:=L.tl.b0.c32
  have c20:=L.tl.tl.b0.c30
  have c21:=L.tl.tl.b0.c31
  have c22:=L.tl.tl.b0.c32
  (try go_wp2_with fail)
  have LP:=L.putQ (by omega) (by first | (simp; done) | (simp; omega)) (ng (0)) A9 B9 (zl (0)) c9 (len (1)) k9
  have k0:=LP.b0.c30
  have k1:=LP.b0.c31
  have k2:=LP.b0.c32
  unfold put3 at k0 k1 k2
  exact bodyPost_ret (v:=.agg #[.bool (ng (0)), .slice A9 (zl (0)) c9, .slice B9 (len (1)) k9]) (by simp [results, Tryz.results144, go_sem, k0, k1, k2]) rfl ⟨_, rfl, LP.getQ (by simp), LP.below⟩
 ·rw [if_neg q, if_neg q]
  have b1 : (x == 0) = false:=by simpa using (fun h => q (hc.1 h))
  obtain ⟨z1, z2⟩:=qt_low (m:=m) hn0
  have hm:=fun v u W h1 h2 => pmake_any m n v u W h1 h2 (by omega) (by omega) hn0
  obtain ⟨p, hp⟩ : ∃ p, (Rat.divInt m n).num = p:=⟨_, rfl⟩
  obtain ⟨r, hr⟩ : ∃ r, (Rat.divInt m n).den = r:=⟨_, rfl⟩
  rw [hp] at hm z1 ⊢
  rw [hr] at hm z2 ⊢
  obtain ⟨s, hs⟩ : ∃ s, e - f = s:=⟨_, rfl⟩
  have hs2 : f - e = -s:=by omega
  rw [hs, hs2]
  have w1 : IntKind.i64.wrap (e - f) = s:=by rw [hs, IntKind.wrap_i64]; omega
  have w2 : IntKind.i64.wrap (-s) = -s:=by rw [IntKind.wrap_i64]; omega
  have zr : zl ((r : Nat) : Int) ≤ 25:=by show len r ≤ 25; omega
  have n1:=fun v W h => anum_any p s v W h (by omega) (by omega)
  have n2:=fun v W h => anum_any ((r : Nat) : Int) (-s) v W h (by omega) (by omega)
  have hc2 : ((r : Nat) : Int) * 2 ^ (-s).toNat = ((r * 2 ^ (-s).toNat : Nat) : Int):=by rw [Int.natCast_mul, cast2]
  rw [hc2] at n2
  obtain ⟨a9, ha9⟩ : ∃ a9, p * 2 ^ s.toNat = a9:=⟨_, rfl⟩
  obtain ⟨d9, hd9⟩ : ∃ d9, r * 2 ^ (-s).toNat = d9:=⟨_, rfl⟩
  rw [ha9] at n1 ⊢
  rw [hd9] at n2 ⊢
  have HM:=Lib.hid hm
  have N1:=Lib.hid n1
  have N2:=Lib.hid n2
  have hfd : ∀ (x : Bool) (E : Option Addr) (n1 n2 : Nat) (W : World), (Instr.field 24 (.agg #[.bool x, .slice E n1 n2]) 1).run Tryz.prog W = .ok (.slice E n1 n2) W:=fun _ _ _ _ _ => by kernel_rfl
  clear hm n1 n2 hp hr hs hs2 z1 z2 zr hc2 ha9 hd9 hc q hx hy hz1 hz2 hn1 hn2 lm ln he hf hn0
  go_enter Tryz.func144, Tryz.ntmps144
  go_wp2_with fail
  have L:=(((L0.varD (w.heap.size) (by simp) (ng m) A (zl m) c e).varD (w.heap.size + 1) (by simp) (ng n) B (zl n) d f).varQ (w.heap.size + 2) (by simp) false none none 0 0 0 0)
  obtain ⟨gr, hgr⟩ : ∃ gr, w.heap.size + 1 + 1 = gr:=⟨_, rfl⟩
  have hgr2 : w.heap.size + 2 = gr:=hgr
  rw [hgr2] at L
  rw [hgr]
  have hgr3 : w.heap.size + 1 < gr:=by omega
  clear hgr hgr2
  have c00:=L.b0.c30
  have f00:=L.b0.fr 0
  have c01:=L.b0.c31
  have f01:=L.b0.fr 1
  have c02:=L.b0.c32
  have f02:=L.b0.fr 2
  have c10:=L.tl.b0.c30
  have c11:=L.tl.b0.c31
  have c12:=L.tl.b0.c32
  have c20:=L.tl.tl.b0.c30
  have c21:=L.tl.tl.b0.c31
  have c22:=L.tl.tl.b0.c32
  (try go_wp2_with fail)
  refine (HS.out _ _ (isD_n (m:=m) (e:=e) (s:=.slice A (zl m) c) (L.getN (by simp)))).mono ?_
  rintro e w1 ⟨rfl, be⟩
  clear c00 f00 c01 f01 c02 f02 c10 c11 c12 c20 c21 c22
  replace L:=L.step be
  clear be
  have c00:=L.b0.c30
  have f00:=L.b0.fr 0
  have c01:=L.b0.c31
  have f01:=L.b0.fr 1
  have c02:=L.b0.c32
  have f02:=L.b0.fr 2
  have c10:=L.tl.b0.c30
  have c11:=L.tl.b0.c31
  have c12:=L.tl.b0.c32
  have c20:=L.tl.tl.b0.c30
  have c21:=L.tl.tl.b0.c31
  have c22:=L.tl.tl.b0.c32
  (try go_wp2_with fail)
  refine (HM.out _ _ _ (L.getZ (v:=.agg #[.bool (ng m), .slice A (zl m) c]) (by simp)) (L.getZ (v:=.agg #[.bool (ng n), .slice B (zl n) d]) (by simp))).mono ?_
  rintro e w2 ⟨vq, rfl, iq, be⟩
  clear c00 f00 c01 f01 c02 f02 c10 c11 c12 c20 c21 c22
  obtain ⟨A8, c8, B8, k8, rfl, iz8, _, in8⟩:=iq.form
  replace L:=((L.step be).z (isZ_nat in8)).z iz8
  clear be iq iz8 in8
  have hl8:=L.b0.lt
  have g8n : gr ≠ w2.heap.size:=by omega
  replace L:=L.varQ w2.heap.size rfl (ng p) A8 B8 (zl p) c8 (len r) k8
  have c00:=L.b0.c30
  have c01:=L.b0.c31
  have c02:=L.b0.c32
  have c20:=L.tl.tl.b0.c30
  have c21:=L.tl.tl.b0.c31
  have c22:=L.tl.tl.b0.c32
  have c30:=L.tl.tl.tl.b0.c30
  have c31:=L.tl.tl.tl.b0.c31
  have c32:=L.tl.tl.tl.b0.c32
  go_wp2_with fail
  replace L:=L.swap.drew
  clear c00 c01 c02 c20 c21 c22 c30 c31 c32
  have c00:=L.b0.c30
  have f00:=L.b0.fr 0
  have c01:=L.b0.c31
  have f01:=L.b0.fr 1
  have c02:=L.b0.c32
  have f02:=L.b0.fr 2
  have c10:=L.tl.b0.c30
  have c11:=L.tl.b0.c31
  have c12:=L.tl.b0.c32
  go_region_held3 (fun w' => w'.cell? ⟨w2.heap.size, 0, none⟩ = some (.bool (ng p)) ∧ w'.cell? ⟨w2.heap.size, 1, none⟩ = some (.slice A8 (zl p) c8) ∧ w'.cell? ⟨w2.heap.size, 2, none⟩ = some (.slice B8 (len r) k8)) (first | (with_reducible exact ⟨L.tl.b0.c30, L.tl.b0.c31, L.tl.b0.c32⟩) | exact ⟨L.tl.b0.c30, L.tl.b0.c31, L.tl.b0.c32⟩ | (have LP:=L.putQ (by omega) (by first | (simp; done) | (simp; omega)) (ng a9) A9 B9 (zl a9) c9 (zl (d9 : Int)) k9; exact ⟨LP.tl.b0.c30, LP.tl.b0.c31, LP.tl.b0.c32⟩)) (first | (go_at_call 185; (with_reducible refine (N1.out _ _ ?_ ).mono ?_); (· (refine L.getZ ?_; (repeat (first | (with_reducible exact List.mem_cons_self) | apply List.mem_cons_of_mem)))); rintro e wh ⟨vh, rfl, iz, be⟩; obtain ⟨A9, c9, rfl, in9⟩:=iz.form; replace L:=(L.step be).n in9; clear be iz in9; (try (have x00:=L.b0.c30; have x01:=L.b0.c31; have x02:=L.b0.c32; have y00:=L.b0.fr 0; have y01:=L.b0.fr 1; have y02:=L.b0.fr 2))) | (go_at_call 185; (with_reducible refine (N2.out _ _ ?_ ).mono ?_); (· (refine L.getZ ?_; (repeat (first | (with_reducible exact List.mem_cons_self) | apply List.mem_cons_of_mem)))); rintro e wh ⟨vh, rfl, iz, be⟩; obtain ⟨B9, k9, rfl, in9⟩:=iz.form; replace L:=(L.step be).n in9; clear be iz in9; (try (have x00:=L.b0.c30; have x01:=L.b0.c31; have x02:=L.b0.c32; have y00:=L.b0.fr 0; have y01:=L.b0.fr 1; have y02:=L.b0.fr 2))))
  clear c00 f00 c01 f01 c02 f02 c10 c11 c12
  go_wp2_with fail
  have LP:=L.putQ (by omega) (by first | (simp; done) | (simp; omega)) (ng a9) A9 B9 (zl a9) c9 (zl (d9 : Int)) k9
  have k0:=LP.b0.c30
  have k1:=LP.b0.c31
  have k2:=LP.b0.c32
  unfold put3 at k0 k1 k2
  exact bodyPost_ret (v:=.agg #[.bool (ng a9), .slice A9 (zl a9) c9, .slice B9 (zl (d9 : Int)) k9]) (by simp [results, Tryz.results144, go_sem, k0, k1, k2]) rfl ⟨_, rfl, ⟨_, _, rfl, LP.getN (by simp), (show IsN _ _ (d9 : Int).natAbs from LP.getN (by simp))⟩, LP.below⟩
theorem div_ends {a b c d : Rat} (hab : a ≤ b) (hc : 0 < c) (hcd : c ≤ d) : (if a < 0 then a / c else a / d) = min4 (a / c) (a / d) (b / c) (b / d) ∧ (if b < 0 then b / d else b / c) = max4 (a / c) (a / d) (b / c) (b / d):=by
 have hd : 0 < d:=rle_lt hc hcd
 have i1:=inv_anti hc hcd
 have i2:=Rat.le_of_lt (inv_pos hc)
 have i3:=Rat.le_of_lt (inv_pos hd)
 simp only [Rat.div_def]
 have b1:=mul_nn hab i2
 have b2:=mul_nn hab i3
 have m4:=min4_le (a * c⁻¹) (a * d⁻¹) (b * c⁻¹) (b * d⁻¹)
 have M4:=le_max4 (a * c⁻¹) (a * d⁻¹) (b * c⁻¹) (b * d⁻¹)
 constructor
 ·by_cases h : a < 0
  ·rw [if_pos h]
   have a1:=mul_np i1 (Rat.le_of_lt h)
   rw [Rat.mul_comm, Rat.mul_comm d⁻¹] at a1
   exact Rat.le_antisymm (le_min4 Rat.le_refl a1 b1 (Rat.le_trans a1 b2)) m4.1
  ·rw [if_neg h]
   have a1:=mul_nn i1 (Rat.not_lt.1 h)
   rw [Rat.mul_comm, Rat.mul_comm c⁻¹] at a1
   exact Rat.le_antisymm (le_min4 a1 Rat.le_refl (Rat.le_trans a1 b1) b2) m4.2.1
 ·by_cases h : b < 0
  ·rw [if_pos h]
   have a1:=mul_np i1 (Rat.le_of_lt h)
   rw [Rat.mul_comm, Rat.mul_comm d⁻¹] at a1
   exact Rat.le_antisymm M4.2.2.2 (max4_le (Rat.le_trans b1 a1) b2 a1 Rat.le_refl)
  ·rw [if_neg h]
   have a1:=mul_nn i1 (Rat.not_lt.1 h)
   rw [Rat.mul_comm, Rat.mul_comm c⁻¹] at a1
   exact Rat.le_antisymm M4.2.2.1 (max4_le b1 (Rat.le_trans b2 a1) Rat.le_refl a1)
theorem dq_lt0 (m e : Int) : dq m e < 0 ↔ m < 0:=by
 have h:=dcm_lt m e 0 0
 rw [dcm_zero, show dq 0 0 = 0 from rfl] at h
 rw [← h]
 unfold cmpI
 (repeat' split) <;> omega
theorem dq_gt0 (m e : Int) : 0 < dq m e ↔ 0 < m:=by
 have h:=dcm_lt 0 0 m e
 rw [dcm_swap m e 0 0, dcm_zero, show dq 0 0 = 0 from rfl] at h
 rw [← h]
 unfold cmpI
 (repeat' split) <;> omega
theorem quo_lo {m e n f m2 e2 n2 f2 : Int} (h1 : dcm m e n f ≤ 0) (h2 : dcm m2 e2 n2 f2 ≤ 0) (hp : 0 < m2) (hp2 : 0 < n2) : Rat.divInt (qtA m e (if m < 0 then m2 else n2) (if m < 0 then e2 else f2)) (qtD m e (if m < 0 then m2 else n2) (if m < 0 then e2 else f2) : Int) = min4 (dq m e / dq m2 e2) (dq m e / dq n2 f2) (dq n f / dq m2 e2) (dq n f / dq n2 f2):=by
 rw [← (div_ends ((dcm_le _ _ _ _).1 h1) ((dq_gt0 m2 e2).2 hp) ((dcm_le _ _ _ _).1 h2)).1]
 have hs:=dq_lt0 m e
 by_cases h : m < 0
 ·rw [if_pos h, if_pos h, if_pos (hs.2 h)]
  exact qt_val (by omega)
 ·rw [if_neg h, if_neg h, if_neg (fun h9 => h (hs.1 h9))]
  exact qt_val (by omega)
theorem quo_hi {m e n f m2 e2 n2 f2 : Int} (h1 : dcm m e n f ≤ 0) (h2 : dcm m2 e2 n2 f2 ≤ 0) (hp : 0 < m2) (hp2 : 0 < n2) : Rat.divInt (qtA n f (if n < 0 then n2 else m2) (if n < 0 then f2 else e2)) (qtD n f (if n < 0 then n2 else m2) (if n < 0 then f2 else e2) : Int) = max4 (dq m e / dq m2 e2) (dq m e / dq n2 f2) (dq n f / dq m2 e2) (dq n f / dq n2 f2):=by
 rw [← (div_ends ((dcm_le _ _ _ _).1 h1) ((dq_gt0 m2 e2).2 hp) ((dcm_le _ _ _ _).1 h2)).2]
 have hs:=dq_lt0 n f
 by_cases h : n < 0
 ·rw [if_pos h, if_pos h, if_pos (hs.2 h)]
  exact qt_val (by omega)
 ·rw [if_neg h, if_neg h, if_neg (fun h9 => h (hs.1 h9))]
  exact qt_val (by omega)
theorem cmp_signs {m n : Int} (h : cmpI m 0 = cmpI n 0) : (cmpI m 0 < 0 → m < 0 ∧ n < 0) ∧ (¬ cmpI m 0 < 0 → cmpI m 0 ≠ 0 → 0 < m ∧ 0 < n):=by
 unfold cmpI at *
 (repeat' split at *) <;> omega
theorem Lq.name {w0 w : World} {ns : List (Value × Nat)} {zs : List (Value × Int)} {qs : List (Value × Int × Nat)} {bs : List (Nat × TypeId × Array Value)} (h : Lq w0 w ns zs qs bs) : ∃ x, w = x ∧ Lq w0 x ns zs qs bs:=⟨w, rfl, h⟩


set_option maxHeartbeats 100000000 in
theorem adiv_pos (m e n f m2 e2 n2 f2 k : Int) (vx vy : Value) (w : World) (hx : IsI w vx m e n f) (hy : IsI w vy m2 e2 n2 f2) (lm : zl m ≤ 25) (ln : zl n ≤ 25) (lm2 : zl m2 ≤ 25) (ln2 : zl n2 ≤ 25) (he : -3000 ≤ e ∧ e ≤ 3000) (hf : -3000 ≤ f ∧ f ≤ 3000) (he2 : -3000 ≤ e2 ∧ e2 ≤ 3000) (hf2 : -3000 ≤ f2 ∧ f2 ≤ 3000) (hd1 : dcm m e n f ≤ 0) (hd2 : dcm m2 e2 n2 f2 ≤ 0) (hk1 : -9223372036854775808 ≤ k) (hk2 : k ≤ 9223372036854775807) (hT : Tab w) (hw : workB k = true) (hxy : cmpI m2 0 = cmpI n2 0) (hx0 : ¬ cmpI m2 0 = 0) (hx1 : ¬ cmpI m2 0 < 0) :
  Calls Tryz.prog 90 #[vx, vy, .int .i64 k] w (RetEn w (min4 (dq m e / dq m2 e2) (dq m e / dq n2 f2) (dq n f / dq m2 e2) (dq n f / dq n2 f2)) (max4 (dq m e / dq m2 e2) (dq m e / dq n2 f2) (dq n f / dq m2 e2) (dq n f / dq n2 f2)) k):=by
 obtain ⟨A, c, B, d, rfl, hn1, hn2⟩:=hx.form
 obtain ⟨A2, k2, B2, d2, rfl, hn3, hn4⟩:=hy.form
 have L0:=((((Lq.mk0 w).n hn4).n hn3).n hn2).n hn1
 have S0:=fun v W h => i10sign_any m2 e2 n2 f2 v W h (by omega) (by omega) (by omega) (by omega)
 have HW0:=fun W => aperm_any k W
 unfold RetSg at S0
 rw [hw] at HW0
 have HW:=Lib.hid HW0
 clear HW0
 obtain ⟨ps1, ps2⟩:=(cmp_signs hxy).2 hx1 hx0
 obtain ⟨x, hx9⟩ : ∃ x, cmpI m2 0 = x:=⟨_, rfl⟩
 rw [if_pos hxy, decide_eq_true hxy] at S0
 rw [hx9] at S0 hx0 hx1
 have S:=Lib.hid S0
 clear S0 hx9 hxy
 have b1 : (x == 0) = false:=by simpa using hx0
 obtain ⟨lo, hlo⟩ : ∃ z, min4 (dq m e / dq m2 e2) (dq m e / dq n2 f2) (dq n f / dq m2 e2) (dq n f / dq n2 f2) = z:=⟨_, rfl⟩
 obtain ⟨hi, hhi⟩ : ∃ z, max4 (dq m e / dq m2 e2) (dq m e / dq n2 f2) (dq n f / dq m2 e2) (dq n f / dq n2 f2) = z:=⟨_, rfl⟩
 rw [hlo, hhi]
 have b2 : decide (x < 0) = false:=decide_eq_false hx1
 have fl : min4 (dq m e / dq m2 e2) (dq m e / dq n2 f2) (dq n f / dq m2 e2) (dq n f / dq n2 f2) = lo:=hlo
 have fh : max4 (dq m e / dq m2 e2) (dq m e / dq n2 f2) (dq n f / dq m2 e2) (dq n f / dq n2 f2) = hi:=hhi
 have bs1:=fun v u z W h1 h2 h3 => absign_any m e m2 e2 n2 f2 v u z W h1 h2 h3 (by omega)
 have v1:=quo_lo hd1 hd2 ps1 ps2
 obtain ⟨p1, hp1⟩ : ∃ p, (if m < 0 then m2 else n2) = p:=⟨_, rfl⟩
 obtain ⟨s1, hs1⟩ : ∃ p, (if m < 0 then e2 else f2) = p:=⟨_, rfl⟩
 have pb1 : zl p1 ≤ 25 ∧ (-3000 ≤ s1 ∧ s1 ≤ 3000) ∧ p1 ≠ 0:=by rw [← hp1, ← hs1]; split <;> refine ⟨by omega, by omega, by omega⟩
 rw [hp1, hs1] at bs1 v1
 have qu1:=fun v u W h1 h2 => aquot_any m e p1 s1 v u W h1 h2 (by omega) (by omega) (by omega) (by omega) pb1.2.2
 have qs1:=qt_small (m:=m) (e:=e) (n:=p1) (f:=s1) pb1.2.2 (by omega) (by omega) (by omega) (by omega)
 have qp1:=qt_pos m e p1 s1
 obtain ⟨qa1, ha1⟩ : ∃ x, qtA m e p1 s1 = x:=⟨_, rfl⟩
 obtain ⟨qd1, hdd1⟩ : ∃ x, qtD m e p1 s1 = x:=⟨_, rfl⟩
 rw [ha1, hdd1] at v1 qu1 qs1
 rw [hdd1] at qp1
 rw [fl] at v1
 have bs2:=fun v u z W h1 h2 h3 => absign_any n f n2 f2 m2 e2 v u z W h1 h2 h3 (by omega)
 have v2:=quo_hi hd1 hd2 ps1 ps2
 obtain ⟨p2, hp2⟩ : ∃ p, (if n < 0 then n2 else m2) = p:=⟨_, rfl⟩
 obtain ⟨s2, hs2⟩ : ∃ p, (if n < 0 then f2 else e2) = p:=⟨_, rfl⟩
 have pb2 : zl p2 ≤ 25 ∧ (-3000 ≤ s2 ∧ s2 ≤ 3000) ∧ p2 ≠ 0:=by rw [← hp2, ← hs2]; split <;> refine ⟨by omega, by omega, by omega⟩
 rw [hp2, hs2] at bs2 v2
 have qu2:=fun v u W h1 h2 => aquot_any n f p2 s2 v u W h1 h2 (by omega) (by omega) (by omega) (by omega) pb2.2.2
 have qs2:=qt_small (m:=n) (e:=f) (n:=p2) (f:=s2) pb2.2.2 (by omega) (by omega) (by omega) (by omega)
 have qp2:=qt_pos n f p2 s2
 obtain ⟨qa2, ha2⟩ : ∃ x, qtA n f p2 s2 = x:=⟨_, rfl⟩
 obtain ⟨qd2, hdd2⟩ : ∃ x, qtD n f p2 s2 = x:=⟨_, rfl⟩
 rw [ha2, hdd2] at v2 qu2 qs2
 rw [hdd2] at qp2
 rw [fh] at v2
 have en:=fun v u W h1 h2 (hW : Below w.heap.size w W) => aenclR_any qa1 qd1 qa2 qd2 k v u W h1 h2 qs1.1 qs1.2 qp1 qs2.1 qs2.2 qp2 hw (hT.mono hW)
 rw [v1, v2] at en
 have BS1:=Lib.hid bs1
 have BS2:=Lib.hid bs2
 have QU1:=Lib.hid qu1
 have QU2:=Lib.hid qu2
 have EN:=Lib.hid en
 clear bs1 bs2 qu1 qu2 en v1 v2 hp1 hp2 hs1 hs2 pb1 pb2 qs1 qs2 qp1 qp2 ha1 ha2 hdd1 hdd2
 clear fl fh hlo hhi hw hx0 hx1 ps1 ps2 hx hy hn1 hn2 hn3 hn4 lm ln lm2 ln2 he hf he2 hf2 hd1 hd2 hk1 hk2 hT
 go_enter Tryz.func90, Tryz.ntmps90
 go_wp2_with fail
 have L:=(((L0.varI (w.heap.size) (by simp) (ng m) A (zl m) c e (ng n) B (zl n) d f).varI (w.heap.size + 1) (by simp) (ng m2) A2 (zl m2) k2 e2 (ng n2) B2 (zl n2) d2 f2).varI (w.heap.size + 2) (by simp) false none 0 0 0 false none 0 0 0)
 obtain ⟨gr, hgr⟩ : ∃ gr, w.heap.size + 1 + 1 = gr:=⟨_, rfl⟩
 have hgr2 : w.heap.size + 2 = gr:=hgr
 rw [hgr2] at L
 rw [hgr]
 have hgr3 : w.heap.size + 1 < gr:=by omega
 clear hgr hgr2
 have c00:=L.b0.c60
 have f00:=L.b0.fr 0
 have c01:=L.b0.c61
 have f01:=L.b0.fr 1
 have c02:=L.b0.c62
 have f02:=L.b0.fr 2
 have c03:=L.b0.c63
 have f03:=L.b0.fr 3
 have c04:=L.b0.c64
 have f04:=L.b0.fr 4
 have c05:=L.b0.c65
 have f05:=L.b0.fr 5
 have c10:=L.tl.b0.c60
 have c11:=L.tl.b0.c61
 have c12:=L.tl.b0.c62
 have c13:=L.tl.b0.c63
 have c14:=L.tl.b0.c64
 have c15:=L.tl.b0.c65
 (try go_wp2_with fail)
 refine (S.out _ _ (isI_n (m:=m2) (e:=e2) (n:=n2) (f:=f2) (L.getN (v:=.slice A2 (zl m2) k2) (x:=(m2).natAbs) (by simp)) (L.getN (v:=.slice B2 (zl n2) d2) (x:=(n2).natAbs) (by simp)))).mono ?_
 rintro e w1 ⟨rfl, be⟩
 clear c00 f00 c01 f01 c02 f02 c03 f03 c04 f04 c05 f05 c10 c11 c12 c13 c14 c15
 replace L:=L.step be
 clear be
 have c00:=L.b0.c60
 have f00:=L.b0.fr 0
 have c01:=L.b0.c61
 have f01:=L.b0.fr 1
 have c02:=L.b0.c62
 have f02:=L.b0.fr 2
 have c03:=L.b0.c63
 have f03:=L.b0.fr 3
 have c04:=L.b0.c64
 have f04:=L.b0.fr 4
 have c05:=L.b0.c65
 have f05:=L.b0.fr 5
 (try go_wp2_with fail)
 refine (HW.out _).mono ?_
 rintro e9 w' ⟨rfl, rfl⟩
 (try go_wp2_with fail)
 clear c00 f00 c01 f01 c02 f02 c03 f03 c04 f04 c05 f05
 have Q0:=Lib.hid (fun Z (hZ : Below w1.heap.size w1 Z) => (L.tl.tl.b0.mono hZ).c60)
 have Q1:=Lib.hid (fun Z (hZ : Below w1.heap.size w1 Z) => (L.tl.tl.b0.mono hZ).c61)
 have Q2:=Lib.hid (fun Z (hZ : Below w1.heap.size w1 Z) => (L.tl.tl.b0.mono hZ).c62)
 have Q3:=Lib.hid (fun Z (hZ : Below w1.heap.size w1 Z) => (L.tl.tl.b0.mono hZ).c63)
 have Q4:=Lib.hid (fun Z (hZ : Below w1.heap.size w1 Z) => (L.tl.tl.b0.mono hZ).c64)
 have Q5:=Lib.hid (fun Z (hZ : Below w1.heap.size w1 Z) => (L.tl.tl.b0.mono hZ).c65)
 have Q6:=Lib.hid (fun Z (hZ : Below w1.heap.size w1 Z) => (L.tl.b0.mono hZ).c60)
 have Q7:=Lib.hid (fun Z (hZ : Below w1.heap.size w1 Z) => (L.tl.b0.mono hZ).c61)
 have Q8:=Lib.hid (fun Z (hZ : Below w1.heap.size w1 Z) => (L.tl.b0.mono hZ).c62)
 have Q9:=Lib.hid (fun Z (hZ : Below w1.heap.size w1 Z) => (L.tl.b0.mono hZ).c63)
 have Q10:=Lib.hid (fun Z (hZ : Below w1.heap.size w1 Z) => (L.tl.b0.mono hZ).c64)
 have Q11:=Lib.hid (fun Z (hZ : Below w1.heap.size w1 Z) => (L.tl.b0.mono hZ).c65)
 have hb1:=L.tl.tl.b0.lt
 have hb2:=L.tl.b0.lt
 have D0 : Dq w1 w1 [(.slice A (zl m) c, m.natAbs), (.slice B (zl n) d, n.natAbs), (.slice A2 (zl m2) k2, m2.natAbs), (.slice B2 (zl n2) d2, n2.natAbs)] [] [] []:=⟨((((Lq.mk0 w1).n (L.getN (v:=.slice B2 (zl n2) d2) (x:=(n2).natAbs) (by simp))).n (L.getN (v:=.slice A2 (zl m2) k2) (x:=(m2).natAbs) (by simp))).n (L.getN (v:=.slice B (zl n) d) (x:=(n).natAbs) (by simp))).n (L.getN (v:=.slice A (zl m) c) (x:=(m).natAbs) (by simp)), List.nodup_nil, fun p hp => by cases hp⟩
 have D:=D0.drew
 have LL:=Lib.hid L
 clear L
 obtain ⟨K, hK⟩ : ∃ K, w1.heap.size = K:=⟨_, rfl⟩
 have hz0 : K ≤ w1.heap.size:=by omega
 have hc1 : w.heap.size < K:=by omega
 have hc2 : w.heap.size + 1 < K:=by omega
 have hmd : w1.drew.heap.size = K:=hK
 go_cut [10] from 40 to 50 (fun s5 wx => Made1Q w1 qa1 qd1 s5 wx)
 case first =>
  go_region_held3 (fun w' => w'.cell? ⟨w.heap.size, 0, none⟩ = some (.bool (ng m)) ∧ w'.cell? ⟨w.heap.size, 1, none⟩ = some (.slice A (zl m) c) ∧ w'.cell? ⟨w.heap.size, 2, none⟩ = some (.int .i64 e) ∧ w'.cell? ⟨w.heap.size, 3, none⟩ = some (.bool (ng n)) ∧ w'.cell? ⟨w.heap.size, 4, none⟩ = some (.slice B (zl n) d) ∧ w'.cell? ⟨w.heap.size, 5, none⟩ = some (.int .i64 f) ∧ w'.cell? ⟨w.heap.size + 1, 0, none⟩ = some (.bool (ng m2)) ∧ w'.cell? ⟨w.heap.size + 1, 1, none⟩ = some (.slice A2 (zl m2) k2) ∧ w'.cell? ⟨w.heap.size + 1, 2, none⟩ = some (.int .i64 e2) ∧ w'.cell? ⟨w.heap.size + 1, 3, none⟩ = some (.bool (ng n2)) ∧ w'.cell? ⟨w.heap.size + 1, 4, none⟩ = some (.slice B2 (zl n2) d2) ∧ w'.cell? ⟨w.heap.size + 1, 5, none⟩ = some (.int .i64 f2)) (((try dsimp only); refine ⟨?_, ?_, ?_, ?_, ?_, ?_, ?_, ?_, ?_, ?_, ?_, ?_⟩ <;> (repeat (first | (with_reducible exact Q0.out _ D.lq.below) | (with_reducible exact Q0.out _ D0.lq.below) | (with_reducible exact Q1.out _ D.lq.below) | (with_reducible exact Q1.out _ D0.lq.below) | (with_reducible exact Q2.out _ D.lq.below) | (with_reducible exact Q2.out _ D0.lq.below) | (with_reducible exact Q3.out _ D.lq.below) | (with_reducible exact Q3.out _ D0.lq.below) | (with_reducible exact Q4.out _ D.lq.below) | (with_reducible exact Q4.out _ D0.lq.below) | (with_reducible exact Q5.out _ D.lq.below) | (with_reducible exact Q5.out _ D0.lq.below) | (with_reducible exact Q6.out _ D.lq.below) | (with_reducible exact Q6.out _ D0.lq.below) | (with_reducible exact Q7.out _ D.lq.below) | (with_reducible exact Q7.out _ D0.lq.below) | (with_reducible exact Q8.out _ D.lq.below) | (with_reducible exact Q8.out _ D0.lq.below) | (with_reducible exact Q9.out _ D.lq.below) | (with_reducible exact Q9.out _ D0.lq.below) | (with_reducible exact Q10.out _ D.lq.below) | (with_reducible exact Q10.out _ D0.lq.below) | (with_reducible exact Q11.out _ D.lq.below) | (with_reducible exact Q11.out _ D0.lq.below) | (with_reducible refine c_alloc _ ?_) | (with_reducible refine c_drew ?_) | (with_reducible refine c_set ?_ (by assumption) ?_) | omega)))) (first | (go_at_call 145; (with_reducible refine (BS1.out _ _ _ _ ?_ ?_ ?_).mono ?_); (· (first | (with_reducible refine isD_n (D.getN ?_); (repeat (first | (with_reducible exact List.mem_cons_self) | apply List.mem_cons_of_mem))) | (with_reducible refine isD_n ((D.box false none none 0 0 0 0).getN ?_); (repeat (first | (with_reducible exact List.mem_cons_self) | apply List.mem_cons_of_mem))) | (with_reducible refine isD_n ((D0.box false none none 0 0 0 0).drew.getN ?_); (repeat (first | (with_reducible exact List.mem_cons_self) | apply List.mem_cons_of_mem))))); (· (first | (with_reducible refine isD_n (D.getN ?_); (repeat (first | (with_reducible exact List.mem_cons_self) | apply List.mem_cons_of_mem))) | (with_reducible refine isD_n ((D.box false none none 0 0 0 0).getN ?_); (repeat (first | (with_reducible exact List.mem_cons_self) | apply List.mem_cons_of_mem))) | (with_reducible refine isD_n ((D0.box false none none 0 0 0 0).drew.getN ?_); (repeat (first | (with_reducible exact List.mem_cons_self) | apply List.mem_cons_of_mem))))); (· (first | (with_reducible refine isD_n (D.getN ?_); (repeat (first | (with_reducible exact List.mem_cons_self) | apply List.mem_cons_of_mem))) | (with_reducible refine isD_n ((D.box false none none 0 0 0 0).getN ?_); (repeat (first | (with_reducible exact List.mem_cons_self) | apply List.mem_cons_of_mem))) | (with_reducible refine isD_n ((D0.box false none none 0 0 0 0).drew.getN ?_); (repeat (first | (with_reducible exact List.mem_cons_self) | apply List.mem_cons_of_mem))))); rintro e9 wh ⟨vh, rfl, id, be⟩; obtain ⟨A7, c7, rfl, _, in9⟩:=id.form; (first | (replace D:=D.step be) | (replace D:=(D.boxM hmd false none none 0 0 0 0).step be) | (replace D:=(D.box false none none 0 0 0 0).step be)); have hz:=be.size; (try simp at hz); replace D:=D.n in9; clear id in9; (try (have x00:=D.lq.b0.c30; have x01:=D.lq.b0.c31; have x02:=D.lq.b0.c32; have y00:=D.lq.b0.fr 0; have y01:=D.lq.b0.fr 1; have y02:=D.lq.b0.fr 2)); (try obtain ⟨na, nb, nc, nd, nl⟩:=D.n0)) | (go_at_call 144; (with_reducible refine (QU1.out _ _ _ ?_ ?_).mono ?_); (· (first | (with_reducible refine isD_n (D.getN ?_); (repeat (first | (with_reducible exact List.mem_cons_self) | apply List.mem_cons_of_mem))) | (with_reducible refine isD_n ((D.box false none none 0 0 0 0).getN ?_); (repeat (first | (with_reducible exact List.mem_cons_self) | apply List.mem_cons_of_mem))) | (with_reducible refine isD_n ((D0.box false none none 0 0 0 0).drew.getN ?_); (repeat (first | (with_reducible exact List.mem_cons_self) | apply List.mem_cons_of_mem))))); (· (first | (with_reducible refine isD_n (D.getN ?_); (repeat (first | (with_reducible exact List.mem_cons_self) | apply List.mem_cons_of_mem))) | (with_reducible refine isD_n ((D.box false none none 0 0 0 0).getN ?_); (repeat (first | (with_reducible exact List.mem_cons_self) | apply List.mem_cons_of_mem))) | (with_reducible refine isD_n ((D0.box false none none 0 0 0 0).drew.getN ?_); (repeat (first | (with_reducible exact List.mem_cons_self) | apply List.mem_cons_of_mem))))); rintro e9 wh ⟨vh, rfl, iq, be⟩; obtain ⟨A8, c8, B8, k8, rfl, _, _, _⟩:=iq.form; (first | (replace D:=D.step be) | (replace D:=(D.boxM hmd false none none 0 0 0 0).step be) | (replace D:=(D.box false none none 0 0 0 0).step be)); have hz:=be.size; (try simp at hz); replace D:=D.q iq; clear iq; (try (have x00:=D.lq.b0.c30; have x01:=D.lq.b0.c31; have x02:=D.lq.b0.c32; have y00:=D.lq.b0.fr 0; have y01:=D.lq.b0.fr 1; have y02:=D.lq.b0.fr 2)); (try obtain ⟨na, nb, nc, nd, nl⟩:=D.n0)))
  all_goals
   go_wp2_with fail
   go_meet
   first
   | ((with_reducible refine made1q_a D ?_) <;> (repeat (first | (with_reducible exact List.mem_cons_self) | apply List.mem_cons_of_mem)))
   | ((with_reducible refine made1q_b D ?_) <;> (repeat (first | (with_reducible exact List.mem_cons_self) | apply List.mem_cons_of_mem)))
 case rest =>
  obtain ⟨gq1, Aq1, cq1, Bq1, kq1, rfl, hg, bw, hb3, iq⟩:=hcut
  have hg4:=LL.out.b0.lt
  have hgq1 : gr < gq1:=by omega
  have hgs1:=hb3.lt
  have L:=((LL.out.step bw).q iq).b hb3
  clear D D0 hmd hz0 hK LL hb3 iq bw hb1 hb2 hc1 hc2 hg hg4 Q0 Q1 Q2 Q3 Q4 Q5 Q6 Q7 Q8 Q9 Q10 Q11
  generalize wc = wd1 at *
  (try go_wp2_with fail)
  replace L:=L.swap
  have Q0:=Lib.hid (fun Z (hZ : Below wd1.heap.size wd1 Z) => (L.tl.tl.tl.b0.mono hZ).c60)
  have Q1:=Lib.hid (fun Z (hZ : Below wd1.heap.size wd1 Z) => (L.tl.tl.tl.b0.mono hZ).c61)
  have Q2:=Lib.hid (fun Z (hZ : Below wd1.heap.size wd1 Z) => (L.tl.tl.tl.b0.mono hZ).c62)
  have Q3:=Lib.hid (fun Z (hZ : Below wd1.heap.size wd1 Z) => (L.tl.tl.tl.b0.mono hZ).c63)
  have Q4:=Lib.hid (fun Z (hZ : Below wd1.heap.size wd1 Z) => (L.tl.tl.tl.b0.mono hZ).c64)
  have Q5:=Lib.hid (fun Z (hZ : Below wd1.heap.size wd1 Z) => (L.tl.tl.tl.b0.mono hZ).c65)
  have Q6:=Lib.hid (fun Z (hZ : Below wd1.heap.size wd1 Z) => (L.tl.tl.b0.mono hZ).c60)
  have Q7:=Lib.hid (fun Z (hZ : Below wd1.heap.size wd1 Z) => (L.tl.tl.b0.mono hZ).c61)
  have Q8:=Lib.hid (fun Z (hZ : Below wd1.heap.size wd1 Z) => (L.tl.tl.b0.mono hZ).c62)
  have Q9:=Lib.hid (fun Z (hZ : Below wd1.heap.size wd1 Z) => (L.tl.tl.b0.mono hZ).c63)
  have Q10:=Lib.hid (fun Z (hZ : Below wd1.heap.size wd1 Z) => (L.tl.tl.b0.mono hZ).c64)
  have Q11:=Lib.hid (fun Z (hZ : Below wd1.heap.size wd1 Z) => (L.tl.tl.b0.mono hZ).c65)
  have hb1:=L.tl.tl.tl.b0.lt
  have hb2:=L.tl.tl.b0.lt
  have D0 : Dq wd1 wd1 [(.slice A (zl m) c, m.natAbs), (.slice B (zl n) d, n.natAbs), (.slice A2 (zl m2) k2, m2.natAbs), (.slice B2 (zl n2) d2, n2.natAbs)] [] [] []:=⟨((((Lq.mk0 wd1).n (L.getN (v:=.slice B2 (zl n2) d2) (x:=(n2).natAbs) (by simp))).n (L.getN (v:=.slice A2 (zl m2) k2) (x:=(m2).natAbs) (by simp))).n (L.getN (v:=.slice B (zl n) d) (x:=(n).natAbs) (by simp))).n (L.getN (v:=.slice A (zl m) c) (x:=(m).natAbs) (by simp)), List.nodup_nil, fun p hp => by cases hp⟩
  have D:=D0.drew
  have LL:=Lib.hid L
  clear L
  obtain ⟨K, hK⟩ : ∃ K, wd1.heap.size = K:=⟨_, rfl⟩
  have hz0 : K ≤ wd1.heap.size:=by omega
  have hc1 : w.heap.size < K:=by omega
  have hc2 : w.heap.size + 1 < K:=by omega
  have hmd : wd1.drew.heap.size = K:=hK
  go_cut [11] from 50 to 60 (fun s5 wx => Made1Q wd1 qa2 qd2 s5 wx)
  case first =>
   go_region_held3 (fun w' => w'.cell? ⟨w.heap.size, 0, none⟩ = some (.bool (ng m)) ∧ w'.cell? ⟨w.heap.size, 1, none⟩ = some (.slice A (zl m) c) ∧ w'.cell? ⟨w.heap.size, 2, none⟩ = some (.int .i64 e) ∧ w'.cell? ⟨w.heap.size, 3, none⟩ = some (.bool (ng n)) ∧ w'.cell? ⟨w.heap.size, 4, none⟩ = some (.slice B (zl n) d) ∧ w'.cell? ⟨w.heap.size, 5, none⟩ = some (.int .i64 f) ∧ w'.cell? ⟨w.heap.size + 1, 0, none⟩ = some (.bool (ng m2)) ∧ w'.cell? ⟨w.heap.size + 1, 1, none⟩ = some (.slice A2 (zl m2) k2) ∧ w'.cell? ⟨w.heap.size + 1, 2, none⟩ = some (.int .i64 e2) ∧ w'.cell? ⟨w.heap.size + 1, 3, none⟩ = some (.bool (ng n2)) ∧ w'.cell? ⟨w.heap.size + 1, 4, none⟩ = some (.slice B2 (zl n2) d2) ∧ w'.cell? ⟨w.heap.size + 1, 5, none⟩ = some (.int .i64 f2)) (((try dsimp only); refine ⟨?_, ?_, ?_, ?_, ?_, ?_, ?_, ?_, ?_, ?_, ?_, ?_⟩ <;> (repeat (first | (with_reducible exact Q0.out _ D.lq.below) | (with_reducible exact Q0.out _ D0.lq.below) | (with_reducible exact Q1.out _ D.lq.below) | (with_reducible exact Q1.out _ D0.lq.below) | (with_reducible exact Q2.out _ D.lq.below) | (with_reducible exact Q2.out _ D0.lq.below) | (with_reducible exact Q3.out _ D.lq.below) | (with_reducible exact Q3.out _ D0.lq.below) | (with_reducible exact Q4.out _ D.lq.below) | (with_reducible exact Q4.out _ D0.lq.below) | (with_reducible exact Q5.out _ D.lq.below) | (with_reducible exact Q5.out _ D0.lq.below) | (with_reducible exact Q6.out _ D.lq.below) | (with_reducible exact Q6.out _ D0.lq.below) | (with_reducible exact Q7.out _ D.lq.below) | (with_reducible exact Q7.out _ D0.lq.below) | (with_reducible exact Q8.out _ D.lq.below) | (with_reducible exact Q8.out _ D0.lq.below) | (with_reducible exact Q9.out _ D.lq.below) | (with_reducible exact Q9.out _ D0.lq.below) | (with_reducible exact Q10.out _ D.lq.below) | (with_reducible exact Q10.out _ D0.lq.below) | (with_reducible exact Q11.out _ D.lq.below) | (with_reducible exact Q11.out _ D0.lq.below) | (with_reducible refine c_alloc _ ?_) | (with_reducible refine c_drew ?_) | (with_reducible refine c_set ?_ (by assumption) ?_) | omega)))) (first | (go_at_call 145; (with_reducible refine (BS2.out _ _ _ _ ?_ ?_ ?_).mono ?_); (· (first | (with_reducible refine isD_n (D.getN ?_); (repeat (first | (with_reducible exact List.mem_cons_self) | apply List.mem_cons_of_mem))) | (with_reducible refine isD_n ((D.box false none none 0 0 0 0).getN ?_); (repeat (first | (with_reducible exact List.mem_cons_self) | apply List.mem_cons_of_mem))) | (with_reducible refine isD_n ((D0.box false none none 0 0 0 0).drew.getN ?_); (repeat (first | (with_reducible exact List.mem_cons_self) | apply List.mem_cons_of_mem))))); (· (first | (with_reducible refine isD_n (D.getN ?_); (repeat (first | (with_reducible exact List.mem_cons_self) | apply List.mem_cons_of_mem))) | (with_reducible refine isD_n ((D.box false none none 0 0 0 0).getN ?_); (repeat (first | (with_reducible exact List.mem_cons_self) | apply List.mem_cons_of_mem))) | (with_reducible refine isD_n ((D0.box false none none 0 0 0 0).drew.getN ?_); (repeat (first | (with_reducible exact List.mem_cons_self) | apply List.mem_cons_of_mem))))); (· (first | (with_reducible refine isD_n (D.getN ?_); (repeat (first | (with_reducible exact List.mem_cons_self) | apply List.mem_cons_of_mem))) | (with_reducible refine isD_n ((D.box false none none 0 0 0 0).getN ?_); (repeat (first | (with_reducible exact List.mem_cons_self) | apply List.mem_cons_of_mem))) | (with_reducible refine isD_n ((D0.box false none none 0 0 0 0).drew.getN ?_); (repeat (first | (with_reducible exact List.mem_cons_self) | apply List.mem_cons_of_mem))))); rintro e9 wh ⟨vh, rfl, id, be⟩; obtain ⟨A7, c7, rfl, _, in9⟩:=id.form; (first | (replace D:=D.step be) | (replace D:=(D.boxM hmd false none none 0 0 0 0).step be) | (replace D:=(D.box false none none 0 0 0 0).step be)); have hz:=be.size; (try simp at hz); replace D:=D.n in9; clear id in9; (try (have x00:=D.lq.b0.c30; have x01:=D.lq.b0.c31; have x02:=D.lq.b0.c32; have y00:=D.lq.b0.fr 0; have y01:=D.lq.b0.fr 1; have y02:=D.lq.b0.fr 2)); (try obtain ⟨na, nb, nc, nd, nl⟩:=D.n0)) | (go_at_call 144; (with_reducible refine (QU2.out _ _ _ ?_ ?_).mono ?_); (· (first | (with_reducible refine isD_n (D.getN ?_); (repeat (first | (with_reducible exact List.mem_cons_self) | apply List.mem_cons_of_mem))) | (with_reducible refine isD_n ((D.box false none none 0 0 0 0).getN ?_); (repeat (first | (with_reducible exact List.mem_cons_self) | apply List.mem_cons_of_mem))) | (with_reducible refine isD_n ((D0.box false none none 0 0 0 0).drew.getN ?_); (repeat (first | (with_reducible exact List.mem_cons_self) | apply List.mem_cons_of_mem))))); (· (first | (with_reducible refine isD_n (D.getN ?_); (repeat (first | (with_reducible exact List.mem_cons_self) | apply List.mem_cons_of_mem))) | (with_reducible refine isD_n ((D.box false none none 0 0 0 0).getN ?_); (repeat (first | (with_reducible exact List.mem_cons_self) | apply List.mem_cons_of_mem))) | (with_reducible refine isD_n ((D0.box false none none 0 0 0 0).drew.getN ?_); (repeat (first | (with_reducible exact List.mem_cons_self) | apply List.mem_cons_of_mem))))); rintro e9 wh ⟨vh, rfl, iq, be⟩; obtain ⟨A8, c8, B8, k8, rfl, _, _, _⟩:=iq.form; (first | (replace D:=D.step be) | (replace D:=(D.boxM hmd false none none 0 0 0 0).step be) | (replace D:=(D.box false none none 0 0 0 0).step be)); have hz:=be.size; (try simp at hz); replace D:=D.q iq; clear iq; (try (have x00:=D.lq.b0.c30; have x01:=D.lq.b0.c31; have x02:=D.lq.b0.c32; have y00:=D.lq.b0.fr 0; have y01:=D.lq.b0.fr 1; have y02:=D.lq.b0.fr 2)); (try obtain ⟨na, nb, nc, nd, nl⟩:=D.n0)))
   all_goals
    go_wp2_with fail
    go_meet
    first
    | ((with_reducible refine made1q_a D ?_) <;> (repeat (first | (with_reducible exact List.mem_cons_self) | apply List.mem_cons_of_mem)))
    | ((with_reducible refine made1q_b D ?_) <;> (repeat (first | (with_reducible exact List.mem_cons_self) | apply List.mem_cons_of_mem)))
  case rest =>
   obtain ⟨gq2, Aq2, cq2, Bq2, kq2, rfl, hg, bw, hb3, iq⟩:=hcut
   have hg4:=LL.out.b0.lt
   have hgq2 : gr < gq2:=by omega
   have hgs2:=hb3.lt
   have L:=((LL.out.step bw).q iq).b hb3
   clear D D0 hmd hz0 hK LL hb3 iq bw hb1 hb2 hc1 hc2 hg hg4 Q0 Q1 Q2 Q3 Q4 Q5 Q6 Q7 Q8 Q9 Q10 Q11
   generalize wc = wd2 at *
   have c00:=L.b0.c30
   have c01:=L.b0.c31
   have c02:=L.b0.c32
   have c20:=L.tl.tl.b0.c30
   have c21:=L.tl.tl.b0.c31
   have c22:=L.tl.tl.b0.c32
   (try go_wp2_with fail)
   refine (EN.out _ _ _ (L.getQ (v:=.agg #[.bool (ng qa1), .slice Aq1 (zl qa1) cq1, .slice Bq1 (len qd1) kq1]) (a:=qa1) (d:=qd1) (by simp)) (L.getQ (v:=.agg #[.bool (ng qa2), .slice Aq2 (zl qa2) cq2, .slice Bq2 (len qd2) kq2]) (a:=qa2) (d:=qd2) (by simp)) L.below).mono ?_
   intro e9 w19 hen
   obtain ⟨v19, er, m9, e9', n9, f9, rfl, ii, be, hback⟩:=hen.form
   obtain ⟨A5, c5, B5, d5, rfl, ia, ib⟩:=ii.form
   replace L:=(((L.step be).n ib).n ia).swap
   clear be ii ia ib hen
   have HBK:=Lib.hid hback
   clear hback
   clear c00 c01 c02 c20 c21 c22
   have c00:=L.b0.c60
   have f00:=L.b0.fr 0
   have c01:=L.b0.c61
   have f01:=L.b0.fr 1
   have c02:=L.b0.c62
   have f02:=L.b0.fr 2
   have c03:=L.b0.c63
   have f03:=L.b0.fr 3
   have c04:=L.b0.c64
   have f04:=L.b0.fr 4
   have c05:=L.b0.c65
   have f05:=L.b0.fr 5
   go_wp2_with fail
   have LP:=L.putI (by omega) (by first | (simp; done) | (simp; omega)) (ng m9) A5 (zl m9) c5 e9' (ng n9) B5 (zl n9) d5 f9
   have k0':=LP.b0.c60
   have k1':=LP.b0.c61
   have k2':=LP.b0.c62
   have k3':=LP.b0.c63
   have k4':=LP.b0.c64
   have k5':=LP.b0.c65
   unfold put6 at k0' k1' k2' k3' k4' k5'
   exact bodyPost_ret (v:=.tuple #[.agg #[.bool (ng m9), .slice A5 (zl m9) c5, .int .i64 e9', .bool (ng n9), .slice B5 (zl n9) d5, .int .i64 f9], .int .i64 er]) (by simp [results, Tryz.results90, go_sem, k0', k1', k2', k3', k4', k5']) rfl (HBK.out _ _ _ (isI_n (LP.getN (by simp)) (LP.getN (by simp))) LP.below)
def IsS (w : World) (v : Value) (a b : Int) : Prop:=∃ s t, v = .agg #[.bool (ng a), s, .bool (ng b), t] ∧ IsN w s a.natAbs ∧ IsN w t b.natAbs
theorem IsS.mono {w w' : World} {v : Value} {a b : Int} (h : IsS w v a b) (hb : Below w.heap.size w w') : IsS w' v a b:=by
 obtain ⟨s, t, r, hs, ht⟩:=h
 exact ⟨s, t, r, hs.mono hb, ht.mono hb⟩
theorem IsS.form {w : World} {v : Value} {a b : Int} (h : IsS w v a b) : ∃ A c B d, v = .agg #[.bool (ng a), .slice A (zl a) c, .bool (ng b), .slice B (zl b) d] ∧ IsN w (.slice A (zl a) c) a.natAbs ∧ IsN w (.slice B (zl b) d) b.natAbs:=by
 obtain ⟨s, t, r, hs, ht⟩:=h
 obtain ⟨A, c, e1⟩:=hs.form
 obtain ⟨B, d, e2⟩:=ht.form
 subst e1 e2
 exact ⟨A, c, B, d, r, hs, ht⟩
theorem isS_n {w : World} {s t : Value} {a b : Int} (h : IsN w s a.natAbs) (h2 : IsN w t b.natAbs) : IsS w (.agg #[.bool (ng a), s, .bool (ng b), t]) a b:=⟨s, t, rfl, h, h2⟩
theorem plain4 (b : Bool) (A : Option Addr) (p c : Nat) (b' : Bool) (B : Option Addr) (q d : Nat) : Plain #[.bool b, .slice A p c, .bool b', .slice B q d]:=fun j x => by
 match j with
 | 0 => simp
 | 1 => simp
 | 2 => simp
 | 3 => simp
 | j + 4 => simp
def put4 (w : World) (g : Nat) (b : Bool) (s : Value) (b' : Bool) (t : Value) : World:=(((w.setCell ⟨g, 0, none⟩ (.bool b)).setCell ⟨g, 1, none⟩ s).setCell ⟨g, 2, none⟩ (.bool b')).setCell ⟨g, 3, none⟩ t
section
variable {w0 w : World} {ns : List (Value × Nat)} {zs : List (Value × Int)} {qs : List (Value × Int × Nat)} {bs : List (Nat × TypeId × Array Value)}
theorem Lq.varS (h : Lq w0 w ns zs qs bs) (g : Nat) (hg : g = w.heap.size) (b : Bool) (A : Option Addr) (p c : Nat) (b' : Bool) (B : Option Addr) (q d : Nat) : Lq w0 (w.alloc (.cells #[.bool b, .slice A p c, .bool b', .slice B q d] 71)) ns zs qs ((g, 71, #[.bool b, .slice A p c, .bool b', .slice B q d]) :: bs):=h.var g hg _ _ (plain4 _ _ _ _ _ _ _ _)
theorem Lq.putS {g : Nat} {b b' : Bool} {s t : Value} (h : Lq w0 w ns zs qs ((g, 71, #[.bool b, s, .bool b', t]) :: bs)) (hg : w0.heap.size ≤ g) (hd : ∀ p ∈ bs, p.1 ≠ g) (b1 : Bool) (A : Option Addr) (p c : Nat) (b2 : Bool) (B : Option Addr) (q d : Nat) :
  Lq w0 (put4 w g b1 (.slice A p c) b2 (.slice B q d)) ns zs qs ((g, 71, #[.bool b1, .slice A p c, .bool b2, .slice B q d]) :: bs):=
 (((h.set hg hd 0 (.bool b1) (by intro x e; cases e)).set hg hd 1 (.slice A p c) (by intro x e; cases e)).set hg hd 2 (.bool b2) (by intro x e; cases e)).set hg hd 3 (.slice B q d) (by intro x e; cases e)
end
theorem Var.c40 {w : World} {g : Nat} {ty : TypeId} {x0 x1 x2 x3 : Value} (h : Var w g ty #[x0, x1, x2, x3]) : w.cell? ⟨g, 0, none⟩ = some x0:=h.cell 0
theorem Var.c41 {w : World} {g : Nat} {ty : TypeId} {x0 x1 x2 x3 : Value} (h : Var w g ty #[x0, x1, x2, x3]) : w.cell? ⟨g, 1, none⟩ = some x1:=h.cell 1
theorem Var.c42 {w : World} {g : Nat} {ty : TypeId} {x0 x1 x2 x3 : Value} (h : Var w g ty #[x0, x1, x2, x3]) : w.cell? ⟨g, 2, none⟩ = some x2:=h.cell 2
theorem Var.c43 {w : World} {g : Nat} {ty : TypeId} {x0 x1 x2 x3 : Value} (h : Var w g ty #[x0, x1, x2, x3]) : w.cell? ⟨g, 3, none⟩ = some x3:=h.cell 3
def RetSp (w : World) (a b : Int) (en : Ending) (w' : World) : Prop:=∃ v, en = .returned v ∧ IsS w' v a b ∧ Below w.heap.size w w'


theorem isZ_s {w : World} {s : Value} {z : Int} (h : IsN w s z.natAbs) : IsZ w (.agg #[.bool (ng z), s]) z:=⟨s, rfl, h⟩

set_option maxHeartbeats 8000000 in
theorem s13add_any (a b a2 b2 : Int) (vx vy : Value) (w : World) (hx : IsS w vx a b) (hy : IsS w vy a2 b2) (la : zl a ≤ 10000) (lb : zl b ≤ 10000) (la2 : zl a2 ≤ 10000) (lb2 : zl b2 ≤ 10000) :
  Calls Tryz.prog 46 #[vx, vy] w (RetSp w (a + a2) (b + b2)):=by
 obtain ⟨A, c, B, d, rfl, hn1, hn2⟩:=hx.form
 obtain ⟨A2, c2, B2, d2, rfl, hn3, hn4⟩:=hy.form
 have L0:=((((Lq.mk0 w).n hn4).n hn3).n hn2).n hn1
 have h1:=fun v u W h k => rzadd_any a a2 v u W h k (by omega) (by omega)
 have h2:=fun v u W h k => rzadd_any b b2 v u W h k (by omega) (by omega)
 obtain ⟨x, hx⟩ : ∃ z, a + a2 = z:=⟨_, rfl⟩
 obtain ⟨y, hy⟩ : ∃ z, b + b2 = z:=⟨_, rfl⟩
 rw [hx] at h1 ⊢
 rw [hy] at h2 ⊢
 have H1:=Lib.hid h1
 have H2:=Lib.hid h2
 clear h1 h2 hx hy hn1 hn2 hn3 hn4 la lb la2 lb2
 go_enter Tryz.func46, Tryz.ntmps46
 go_wp2_with fail
 have L:=(((L0.varS (w.heap.size) (by simp) (ng a) A (zl a) c (ng b) B (zl b) d).varS (w.heap.size + 1) (by simp) (ng a2) A2 (zl a2) c2 (ng b2) B2 (zl b2) d2).varS (w.heap.size + 2) (by simp) false none 0 0 false none 0 0)
 replace L:=L.drew
 have c00:=L.b0.c40
 have f00:=L.b0.fr 0
 have c01:=L.b0.c41
 have f01:=L.b0.fr 1
 have c02:=L.b0.c42
 have f02:=L.b0.fr 2
 have c03:=L.b0.c43
 have f03:=L.b0.fr 3
 have c10:=L.tl.b0.c40
 have c11:=L.tl.b0.c41
 have c12:=L.tl.b0.c42
 have c13:=L.tl.b0.c43
 have c20:=L.tl.tl.b0.c40
 have c21:=L.tl.tl.b0.c41
 have c22:=L.tl.tl.b0.c42
 have c23:=L.tl.tl.b0.c43
 go_region_held3 (fun w' => w'.cell? ⟨w.heap.size, 0, none⟩ = some (.bool (ng a)) ∧ w'.cell? ⟨w.heap.size, 1, none⟩ = some (.slice A (zl a) c) ∧ w'.cell? ⟨w.heap.size, 2, none⟩ = some (.bool (ng b)) ∧ w'.cell? ⟨w.heap.size, 3, none⟩ = some (.slice B (zl b) d) ∧ w'.cell? ⟨(w.heap.size + 1), 0, none⟩ = some (.bool (ng a2)) ∧ w'.cell? ⟨(w.heap.size + 1), 1, none⟩ = some (.slice A2 (zl a2) c2) ∧ w'.cell? ⟨(w.heap.size + 1), 2, none⟩ = some (.bool (ng b2)) ∧ w'.cell? ⟨(w.heap.size + 1), 3, none⟩ = some (.slice B2 (zl b2) d2)) (first | (with_reducible exact ⟨L.tl.tl.b0.c40, L.tl.tl.b0.c41, L.tl.tl.b0.c42, L.tl.tl.b0.c43, L.tl.b0.c40, L.tl.b0.c41, L.tl.b0.c42, L.tl.b0.c43⟩) | (have LP:=L.putS (by omega) (by first | (simp; done) | (simp; omega)) (ng x) A8 (zl x) c8 (ng y) A9 (zl y) c9; unfold put4 at LP; with_reducible exact ⟨LP.tl.tl.b0.c40, LP.tl.tl.b0.c41, LP.tl.tl.b0.c42, LP.tl.tl.b0.c43, LP.tl.b0.c40, LP.tl.b0.c41, LP.tl.b0.c42, LP.tl.b0.c43⟩) | exact ⟨L.tl.tl.b0.c40, L.tl.tl.b0.c41, L.tl.tl.b0.c42, L.tl.tl.b0.c43, L.tl.b0.c40, L.tl.b0.c41, L.tl.b0.c42, L.tl.b0.c43⟩) (first | (go_at_call 76; (with_reducible refine (H1.out _ _ _ ?_ ?_ ).mono ?_); (· (refine isZ_s (L.getN ?_); (repeat (first | (with_reducible exact List.mem_cons_self) | apply List.mem_cons_of_mem)))); (· (refine isZ_s (L.getN ?_); (repeat (first | (with_reducible exact List.mem_cons_self) | apply List.mem_cons_of_mem)))); rintro e wh ⟨vh, rfl, iz, be⟩; obtain ⟨A8, c8, rfl, in9⟩:=iz.form; replace L:=(L.step be).n in9; clear be iz in9; (try (have x00:=L.b0.c40; have y00:=L.b0.fr 0; have x01:=L.b0.c41; have y01:=L.b0.fr 1; have x02:=L.b0.c42; have y02:=L.b0.fr 2; have x03:=L.b0.c43; have y03:=L.b0.fr 3))) | (go_at_call 76; (with_reducible refine (H2.out _ _ _ ?_ ?_ ).mono ?_); (· (refine isZ_s (L.getN ?_); (repeat (first | (with_reducible exact List.mem_cons_self) | apply List.mem_cons_of_mem)))); (· (refine isZ_s (L.getN ?_); (repeat (first | (with_reducible exact List.mem_cons_self) | apply List.mem_cons_of_mem)))); rintro e wh ⟨vh, rfl, iz, be⟩; obtain ⟨A9, c9, rfl, in9⟩:=iz.form; replace L:=(L.step be).n in9; clear be iz in9; (try (have x00:=L.b0.c40; have y00:=L.b0.fr 0; have x01:=L.b0.c41; have y01:=L.b0.fr 1; have x02:=L.b0.c42; have y02:=L.b0.fr 2; have x03:=L.b0.c43; have y03:=L.b0.fr 3))))
 clear c00 f00 c01 f01 c02 f02 c03 f03 c10 c11 c12 c13 c20 c21 c22 c23
 go_wp2_with fail
 have LP:=L.putS (by omega) (by first | (simp; done) | (simp; omega)) (ng x) A8 (zl x) c8 (ng y) A9 (zl y) c9
 have k0:=LP.b0.c40
 have k1:=LP.b0.c41
 have k2:=LP.b0.c42
 have k3:=LP.b0.c43
 unfold put4 at k0 k1 k2 k3
 exact bodyPost_ret (v:=.agg #[.bool (ng x), .slice A8 (zl x) c8, .bool (ng y), .slice A9 (zl y) c9]) (by simp [results, Tryz.results46, go_sem, k0, k1, k2, k3]) rfl ⟨_, rfl, isS_n (LP.getN (by simp)) (LP.getN (by simp)), LP.below⟩
set_option maxHeartbeats 8000000 in
theorem s13neg_any (a b : Int) (vx : Value) (w : World) (hx : IsS w vx a b) (la : zl a ≤ 10000) (lb : zl b ≤ 10000) :
  Calls Tryz.prog 96 #[vx] w (RetSp w (-b) (-a)):=by
 obtain ⟨A, c, B, d, rfl, hn1, hn2⟩:=hx.form
 have L0:=((Lq.mk0 w).n hn2).n hn1
 have h1:=fun v W h => rzneg_any b v W h (by omega)
 have h2:=fun v W h => rzneg_any a v W h (by omega)
 obtain ⟨x, hx⟩ : ∃ z, -b = z:=⟨_, rfl⟩
 obtain ⟨y, hy⟩ : ∃ z, -a = z:=⟨_, rfl⟩
 rw [hx] at h1 ⊢
 rw [hy] at h2 ⊢
 have H1:=Lib.hid h1
 have H2:=Lib.hid h2
 clear h1 h2 hx hy hn1 hn2 la lb
 go_enter Tryz.func96, Tryz.ntmps96
 go_wp2_with fail
 have L:=((L0.varS (w.heap.size) (by simp) (ng a) A (zl a) c (ng b) B (zl b) d).varS (w.heap.size + 1) (by simp) false none 0 0 false none 0 0)
 replace L:=L.drew
 have c00:=L.b0.c40
 have f00:=L.b0.fr 0
 have c01:=L.b0.c41
 have f01:=L.b0.fr 1
 have c02:=L.b0.c42
 have f02:=L.b0.fr 2
 have c03:=L.b0.c43
 have f03:=L.b0.fr 3
 have c10:=L.tl.b0.c40
 have c11:=L.tl.b0.c41
 have c12:=L.tl.b0.c42
 have c13:=L.tl.b0.c43
 go_region_held3 (fun w' => w'.cell? ⟨w.heap.size, 0, none⟩ = some (.bool (ng a)) ∧ w'.cell? ⟨w.heap.size, 1, none⟩ = some (.slice A (zl a) c) ∧ w'.cell? ⟨w.heap.size, 2, none⟩ = some (.bool (ng b)) ∧ w'.cell? ⟨w.heap.size, 3, none⟩ = some (.slice B (zl b) d)) (first | (with_reducible exact ⟨L.tl.b0.c40, L.tl.b0.c41, L.tl.b0.c42, L.tl.b0.c43⟩) | (have LP:=L.putS (by omega) (by first | (simp; done) | (simp; omega)) (ng x) A8 (zl x) c8 (ng y) A9 (zl y) c9; unfold put4 at LP; with_reducible exact ⟨LP.tl.b0.c40, LP.tl.b0.c41, LP.tl.b0.c42, LP.tl.b0.c43⟩) | exact ⟨L.tl.b0.c40, L.tl.b0.c41, L.tl.b0.c42, L.tl.b0.c43⟩) (first | (go_at_call 94; (with_reducible refine (H1.out _ _ ?_ ).mono ?_); (· (refine isZ_s (L.getN ?_); (repeat (first | (with_reducible exact List.mem_cons_self) | apply List.mem_cons_of_mem)))); rintro e wh ⟨vh, rfl, iz, be⟩; obtain ⟨A8, c8, rfl, in9⟩:=iz.form; replace L:=(L.step be).n in9; clear be iz in9; (try (have x00:=L.b0.c40; have y00:=L.b0.fr 0; have x01:=L.b0.c41; have y01:=L.b0.fr 1; have x02:=L.b0.c42; have y02:=L.b0.fr 2; have x03:=L.b0.c43; have y03:=L.b0.fr 3))) | (go_at_call 94; (with_reducible refine (H2.out _ _ ?_ ).mono ?_); (· (refine isZ_s (L.getN ?_); (repeat (first | (with_reducible exact List.mem_cons_self) | apply List.mem_cons_of_mem)))); rintro e wh ⟨vh, rfl, iz, be⟩; obtain ⟨A9, c9, rfl, in9⟩:=iz.form; replace L:=(L.step be).n in9; clear be iz in9; (try (have x00:=L.b0.c40; have y00:=L.b0.fr 0; have x01:=L.b0.c41; have y01:=L.b0.fr 1; have x02:=L.b0.c42; have y02:=L.b0.fr 2; have x03:=L.b0.c43; have y03:=L.b0.fr 3))))
 clear c00 f00 c01 f01 c02 f02 c03 f03 c10 c11 c12 c13
 go_wp2_with fail
 have LP:=L.putS (by omega) (by first | (simp; done) | (simp; omega)) (ng x) A8 (zl x) c8 (ng y) A9 (zl y) c9
 have k0:=LP.b0.c40
 have k1:=LP.b0.c41
 have k2:=LP.b0.c42
 have k3:=LP.b0.c43
 unfold put4 at k0 k1 k2 k3
 exact bodyPost_ret (v:=.agg #[.bool (ng x), .slice A8 (zl x) c8, .bool (ng y), .slice A9 (zl y) c9]) (by simp [results, Tryz.results96, go_sem, k0, k1, k2, k3]) rfl ⟨_, rfl, isS_n (LP.getN (by simp)) (LP.getN (by simp)), LP.below⟩
set_option maxHeartbeats 8000000 in
theorem s13sub_any (a b a2 b2 : Int) (vx vy : Value) (w : World) (hx : IsS w vx a b) (hy : IsS w vy a2 b2) (la : zl a ≤ 10000) (lb : zl b ≤ 10000) (la2 : zl a2 ≤ 10000) (lb2 : zl b2 ≤ 10000) :
  Calls Tryz.prog 43 #[vx, vy] w (RetSp w (a + -b2) (b + -a2)):=by
 obtain ⟨A, c, B, d, rfl, hn1, hn2⟩:=hx.form
 obtain ⟨A2, c2, B2, d2, rfl, hn3, hn4⟩:=hy.form
 have L0:=((((Lq.mk0 w).n hn4).n hn3).n hn2).n hn1
 have z1:=zl_neg a2
 have z2:=zl_neg b2
 have h1:=fun v W h => s13neg_any a2 b2 v W h la2 lb2
 have h2:=fun v u W h k => s13add_any a b (-b2) (-a2) v u W h k la lb (by omega) (by omega)
 obtain ⟨p, hp⟩ : ∃ z, -b2 = z:=⟨_, rfl⟩
 obtain ⟨q, hq⟩ : ∃ z, -a2 = z:=⟨_, rfl⟩
 rw [hp, hq] at h1 h2 ⊢
 obtain ⟨x, hx⟩ : ∃ z, a + p = z:=⟨_, rfl⟩
 obtain ⟨y, hy⟩ : ∃ z, b + q = z:=⟨_, rfl⟩
 rw [hx, hy] at h2 ⊢
 have H1:=Lib.hid h1
 have H2:=Lib.hid h2
 clear h1 h2 hx hy hn1 hn2 hn3 hn4 la lb la2 lb2 hp hq z1 z2
 go_enter Tryz.func43, Tryz.ntmps43
 go_wp2_with fail
 have L:=(((L0.varS (w.heap.size) (by simp) (ng a) A (zl a) c (ng b) B (zl b) d).varS (w.heap.size + 1) (by simp) (ng a2) A2 (zl a2) c2 (ng b2) B2 (zl b2) d2).varS (w.heap.size + 2) (by simp) false none 0 0 false none 0 0)
 replace L:=L.drew
 have c00:=L.b0.c40
 have f00:=L.b0.fr 0
 have c01:=L.b0.c41
 have f01:=L.b0.fr 1
 have c02:=L.b0.c42
 have f02:=L.b0.fr 2
 have c03:=L.b0.c43
 have f03:=L.b0.fr 3
 have c10:=L.tl.b0.c40
 have c11:=L.tl.b0.c41
 have c12:=L.tl.b0.c42
 have c13:=L.tl.b0.c43
 have c20:=L.tl.tl.b0.c40
 have c21:=L.tl.tl.b0.c41
 have c22:=L.tl.tl.b0.c42
 have c23:=L.tl.tl.b0.c43
 go_region_held3 (fun w' => w'.cell? ⟨w.heap.size, 0, none⟩ = some (.bool (ng a)) ∧ w'.cell? ⟨w.heap.size, 1, none⟩ = some (.slice A (zl a) c) ∧ w'.cell? ⟨w.heap.size, 2, none⟩ = some (.bool (ng b)) ∧ w'.cell? ⟨w.heap.size, 3, none⟩ = some (.slice B (zl b) d) ∧ w'.cell? ⟨(w.heap.size + 1), 0, none⟩ = some (.bool (ng a2)) ∧ w'.cell? ⟨(w.heap.size + 1), 1, none⟩ = some (.slice A2 (zl a2) c2) ∧ w'.cell? ⟨(w.heap.size + 1), 2, none⟩ = some (.bool (ng b2)) ∧ w'.cell? ⟨(w.heap.size + 1), 3, none⟩ = some (.slice B2 (zl b2) d2)) (first | (with_reducible exact ⟨L.tl.tl.b0.c40, L.tl.tl.b0.c41, L.tl.tl.b0.c42, L.tl.tl.b0.c43, L.tl.b0.c40, L.tl.b0.c41, L.tl.b0.c42, L.tl.b0.c43⟩) | (have LP:=L.putS (by omega) (by first | (simp; done) | (simp; omega)) (ng x) A8 (zl x) c8 (ng y) B8 (zl y) d8; unfold put4 at LP; with_reducible exact ⟨LP.tl.tl.b0.c40, LP.tl.tl.b0.c41, LP.tl.tl.b0.c42, LP.tl.tl.b0.c43, LP.tl.b0.c40, LP.tl.b0.c41, LP.tl.b0.c42, LP.tl.b0.c43⟩) | exact ⟨L.tl.tl.b0.c40, L.tl.tl.b0.c41, L.tl.tl.b0.c42, L.tl.tl.b0.c43, L.tl.b0.c40, L.tl.b0.c41, L.tl.b0.c42, L.tl.b0.c43⟩) (first | (go_at_call 96; (with_reducible refine (H1.out _ _ ?_ ).mono ?_); (· (refine isS_n (L.getN ?_) (L.getN ?_) <;> (repeat (first | (with_reducible exact List.mem_cons_self) | apply List.mem_cons_of_mem)))); rintro e wh ⟨vh, rfl, iq, be⟩; obtain ⟨A7, c7, B7, d7, rfl, ia, ib⟩:=iq.form; replace L:=((L.step be).n ib).n ia; clear be iq ia ib; (try (have x00:=L.b0.c40; have y00:=L.b0.fr 0; have x01:=L.b0.c41; have y01:=L.b0.fr 1; have x02:=L.b0.c42; have y02:=L.b0.fr 2; have x03:=L.b0.c43; have y03:=L.b0.fr 3))) | (go_at_call 46; (with_reducible refine (H2.out _ _ _ ?_ ?_ ).mono ?_); (· (refine isS_n (L.getN ?_) (L.getN ?_) <;> (repeat (first | (with_reducible exact List.mem_cons_self) | apply List.mem_cons_of_mem)))); (· (refine isS_n (L.getN ?_) (L.getN ?_) <;> (repeat (first | (with_reducible exact List.mem_cons_self) | apply List.mem_cons_of_mem)))); rintro e wh ⟨vh, rfl, iq, be⟩; obtain ⟨A8, c8, B8, d8, rfl, ia, ib⟩:=iq.form; replace L:=((L.step be).n ib).n ia; clear be iq ia ib; (try (have x00:=L.b0.c40; have y00:=L.b0.fr 0; have x01:=L.b0.c41; have y01:=L.b0.fr 1; have x02:=L.b0.c42; have y02:=L.b0.fr 2; have x03:=L.b0.c43; have y03:=L.b0.fr 3))))
 clear c00 f00 c01 f01 c02 f02 c03 f03 c10 c11 c12 c13 c20 c21 c22 c23
 go_wp2_with fail
 have LP:=L.putS (by omega) (by first | (simp; done) | (simp; omega)) (ng x) A8 (zl x) c8 (ng y) B8 (zl y) d8
 have k0:=LP.b0.c40
 have k1:=LP.b0.c41
 have k2:=LP.b0.c42
 have k3:=LP.b0.c43
 unfold put4 at k0 k1 k2 k3
 exact bodyPost_ret (v:=.agg #[.bool (ng x), .slice A8 (zl x) c8, .bool (ng y), .slice B8 (zl y) d8]) (by simp [results, Tryz.results43, go_sem, k0, k1, k2, k3]) rfl ⟨_, rfl, isS_n (LP.getN (by simp)) (LP.getN (by simp)), LP.below⟩

theorem Lq.subx {w0 w : World} {ns : List (Value × Nat)} {zs : List (Value × Int)} {qs : List (Value × Int × Nat)} {bs : List (Nat × TypeId × Array Value)} (h : Lq w0 w ns zs qs bs) {ns' : List (Value × Nat)} {bs' : List (Nat × TypeId × Array Value)} (h1 : ∀ p ∈ ns', p ∈ ns) (h2 : ∀ b ∈ bs', b ∈ bs) : Lq w0 w ns' [] [] bs':=
 ⟨h.below, fun x hx => h.ns x (h1 x hx), fun _ x => (by cases x), fun _ x => (by cases x), fun x hx => h.bs x (h2 x hx)⟩

set_option maxHeartbeats 8000000 in
theorem s13at_any (m e : Int) (v : Nat) (vx : Value) (w : World) (hx : IsD w vx m e) (lm : zl m ≤ 1000) (he : -20000 ≤ e ∧ e ≤ 20000) (hv : v ≤ 20000) :
  Calls Tryz.prog 42 #[vx, .int .i64 (v : Int)] w (RetSp w (cutQ (dq m e) (v : Int)) (-(cutQ (-(dq m e)) (v : Int)))):=by
 obtain ⟨A, c, rfl, _, hn⟩:=hx.form
 have L0:=(Lq.mk0 w).n hn
 have zn:=zl_neg m
 have x1:=zl_two m e.toNat
 have y1:=len_two (-e).toNat
 have z1:=two_pos8 (-e).toNat
 have x2:=zl_two (-m) e.toNat
 have h1:=fun v W h => rrat8_any m e v W h (by omega) (by omega)
 have h2:=fun x W h => rcut_any (m * 2 ^ e.toNat) (2 ^ (-e).toNat) (v : Int) x W h (by omega) (by omega) z1 (by omega) (by omega)
 have h3:=fun v W h => rneg8_any m e v W h (by omega)
 have h4:=fun v W h => rrat8_any (-m) e v W h (by omega) (by omega)
 have h5:=fun x W h => rcut_any (-m * 2 ^ e.toNat) (2 ^ (-e).toNat) (v : Int) x W h (by omega) (by omega) z1 (by omega) (by omega)
 rw [show Rat.divInt (m * 2 ^ e.toNat) ((2 ^ (-e).toNat : Nat) : Int) = dq m e from rfl] at h2
 rw [show Rat.divInt (-m * 2 ^ e.toNat) ((2 ^ (-e).toNat : Nat) : Int) = -(dq m e) from dq_neg m e] at h5
 have lz : zl (cutQ (-(dq m e)) (v : Int)) ≤ 274877906944:=by
  rw [show -(dq m e) = Rat.divInt (-m * 2 ^ e.toNat) ((2 ^ (-e).toNat : Nat) : Int) from (dq_neg m e).symm, cut_eq _ _ z1]
  have a1:=zl_two (-m * 2 ^ e.toNat) ((v : Int)).toNat
  refine Nat.le_trans (len_mono (Int.natAbs_ediv_le_natAbs _ _)) ?_
  exact Nat.le_trans a1 (by omega)
 have h6:=fun x W h => rzneg_any (cutQ (-(dq m e)) (v : Int)) x W h lz
 obtain ⟨x, hx⟩ : ∃ z, cutQ (dq m e) (v : Int) = z:=⟨_, rfl⟩
 obtain ⟨y, hy⟩ : ∃ z, cutQ (-(dq m e)) (v : Int) = z:=⟨_, rfl⟩
 rw [hx] at h2 ⊢
 rw [hy] at h5 h6 ⊢
 obtain ⟨z, hz⟩ : ∃ z, -y = z:=⟨_, rfl⟩
 rw [hz] at h6 ⊢
 generalize m * 2 ^ e.toNat = p1 at *
 generalize -m * 2 ^ e.toNat = p2 at *
 generalize 2 ^ (-e).toNat = q1 at *
 have H1:=Lib.hid h1
 have H2:=Lib.hid h2
 have H3:=Lib.hid h3
 have H4:=Lib.hid h4
 have H5:=Lib.hid h5
 have H6:=Lib.hid h6
 clear h1 h2 h3 h4 h5 h6 hx hy hz lz zn x1 y1 z1 x2 hn lm he
 go_enter Tryz.func42, Tryz.ntmps42
 have L:=((L0.varD (w.heap.size) (by simp) (ng m) A (zl m) c e).varS (w.heap.size + 1) (by simp) false none 0 0 false none 0 0)
 have c10:=L.tl.b0.c30
 have c11:=L.tl.b0.c31
 have c12:=L.tl.b0.c32
 (try go_wp2_with fail)
 refine (H1.out _ _ (isD_n (m:=m) (e:=e) (s:=.slice A (zl m) c) (L.getN (by simp)))).mono ?_
 rintro e w1 ⟨v1, rfl, iq, be⟩
 clear c10 c11 c12
 obtain ⟨A1, c1, B1, d1, rfl, _, i1, i2⟩:=iq.form
 replace L:=((L.step be).n i2).n i1
 clear be iq i1 i2
 have hl1:=L.b0.lt
 replace L:=L.varQ w1.heap.size rfl (ng p1) A1 B1 (zl p1) c1 (len q1) d1
 have c00:=L.b0.c30
 have c01:=L.b0.c31
 have c02:=L.b0.c32
 go_wp2_with fail
 clear c00 c01 c02
 obtain ⟨g1, hg1⟩ : ∃ g9, w1.heap.size = g9:=⟨_, rfl⟩
 rw [hg1] at L hl1 ⊢
 clear hg1
 refine (H2.out _ _ ⟨.slice A1 (zl p1) c1, .slice B1 (len q1) d1, rfl, L.getN (by simp), L.getN (by simp)⟩).mono ?_
 rintro e w2 ⟨v2, rfl, iz, be⟩
 obtain ⟨A2, c2, rfl, i1⟩:=iz.form
 replace L:=(L.step be).n i1
 clear be iz i1
 have hl2:=L.b0.lt
 replace L:=L.varZ w2.heap.size rfl (ng x) A2 (zl x) c2
 have c00:=L.b0.c20
 have c01:=L.b0.c21
 have c30:=L.tl.tl.tl.b0.c30
 have c31:=L.tl.tl.tl.b0.c31
 have c32:=L.tl.tl.tl.b0.c32
 go_wp2_with fail
 clear c00 c01 c30 c31 c32
 obtain ⟨g2, hg2⟩ : ∃ g9, w2.heap.size = g9:=⟨_, rfl⟩
 rw [hg2] at L hl2 ⊢
 clear hg2
 have n1 : w.heap.size + 1 ≠ g1:=by omega
 have n2 : w.heap.size + 1 ≠ g2:=by omega
 have L9:=L.subx (ns':=[(.slice A2 (zl x) c2, x.natAbs), (.slice A (zl m) c, m.natAbs)]) (bs':=[(w.heap.size + 1, 71, #[.bool false, .slice none 0 0, .bool false, .slice none 0 0]), (g2, 24, #[.bool (ng x), .slice A2 (zl x) c2]), (w.heap.size, 26, #[.bool (ng m), .slice A (zl m) c, .int .i64 e])]) (by simp) (by simp)
 clear L
 have L:=L9.drew
 clear L9
 have c00:=L.b0.c40
 have f00:=L.b0.fr 0
 have c01:=L.b0.c41
 have f01:=L.b0.fr 1
 have c02:=L.b0.c42
 have f02:=L.b0.fr 2
 have c03:=L.b0.c43
 have f03:=L.b0.fr 3
 have c10:=L.tl.b0.c20
 have c11:=L.tl.b0.c21
 have c20:=L.tl.tl.b0.c30
 have c21:=L.tl.tl.b0.c31
 have c22:=L.tl.tl.b0.c32
 go_region_held3 (fun w' => w'.cell? ⟨g2, 0, none⟩ = some (.bool (ng x)) ∧ w'.cell? ⟨g2, 1, none⟩ = some (.slice A2 (zl x) c2) ∧ w'.cell? ⟨w.heap.size, 0, none⟩ = some (.bool (ng m)) ∧ w'.cell? ⟨w.heap.size, 1, none⟩ = some (.slice A (zl m) c) ∧ w'.cell? ⟨w.heap.size, 2, none⟩ = some (.int .i64 e)) (first | (with_reducible exact ⟨L.tl.b0.c20, L.tl.b0.c21, L.tl.tl.b0.c30, L.tl.tl.b0.c31, L.tl.tl.b0.c32⟩) | (have LP:=L.putS (by omega) (by first | (simp; done) | (simp; omega)) (ng x) A2 (zl x) c2 (ng z) A8 (zl z) c8; unfold put4 at LP; with_reducible exact ⟨LP.tl.b0.c20, LP.tl.b0.c21, LP.tl.tl.b0.c30, LP.tl.tl.b0.c31, LP.tl.tl.b0.c32⟩) | exact ⟨L.tl.b0.c20, L.tl.b0.c21, L.tl.tl.b0.c30, L.tl.tl.b0.c31, L.tl.tl.b0.c32⟩) (first | (go_at_call 41; (with_reducible refine (H3.out _ _ ?_ ).mono ?_); (· (refine isD_n (L.getN ?_); (repeat (first | (with_reducible exact List.mem_cons_self) | apply List.mem_cons_of_mem)))); rintro e wh ⟨vh, rfl, id, be⟩; obtain ⟨A4, c4, rfl, _, in9⟩:=id.form; replace L:=(L.step be).n in9; clear be id in9) | (go_at_call 32; (with_reducible refine (H4.out _ _ ?_ ).mono ?_); (· (refine isD_n (L.getN ?_); (repeat (first | (with_reducible exact List.mem_cons_self) | apply List.mem_cons_of_mem)))); rintro e wh ⟨vh, rfl, iq, be⟩; replace L:=(L.step be).q iq; clear be iq) | (go_at_call 95; (with_reducible refine (H5.out _ _ ?_ ).mono ?_); (· (refine L.getQ ?_; (repeat (first | (with_reducible exact List.mem_cons_self) | apply List.mem_cons_of_mem)))); rintro e wh ⟨vh, rfl, iz, be⟩; replace L:=(L.step be).z iz; clear be iz) | (go_at_call 94; (with_reducible refine (H6.out _ _ ?_ ).mono ?_); (· (refine L.getZ ?_; (repeat (first | (with_reducible exact List.mem_cons_self) | apply List.mem_cons_of_mem)))); rintro e wh ⟨vh, rfl, iz, be⟩; obtain ⟨A8, c8, rfl, in9⟩:=iz.form; replace L:=(L.step be).n in9; clear be iz in9; (try (have x00:=L.b0.c40; have y00:=L.b0.fr 0; have x01:=L.b0.c41; have y01:=L.b0.fr 1; have x02:=L.b0.c42; have y02:=L.b0.fr 2; have x03:=L.b0.c43; have y03:=L.b0.fr 3))))
 clear c00 f00 c01 f01 c02 f02 c03 f03 c10 c11 c20 c21 c22
 go_wp2_with fail
 have LP:=L.putS (by omega) (by first | (simp; done) | (simp; omega)) (ng x) A2 (zl x) c2 (ng z) A8 (zl z) c8
 have k0:=LP.b0.c40
 have k1:=LP.b0.c41
 have k2:=LP.b0.c42
 have k3:=LP.b0.c43
 unfold put4 at k0 k1 k2 k3
 exact bodyPost_ret (v:=.agg #[.bool (ng x), .slice A2 (zl x) c2, .bool (ng z), .slice A8 (zl z) c8]) (by simp [results, Tryz.results42, go_sem, k0, k1, k2, k3]) rfl ⟨_, rfl, isS_n (LP.getN (by simp)) (LP.getN (by simp)), LP.below⟩

def okX (p least : Int) : Bool:=decide (least ≤ p) && decide (p ≤ 4096)
set_option maxHeartbeats 1000000 in
theorem xperm_any (p least : Int) (w : World) :
  Calls Tryz.prog 54 #[.int .i64 p, .int .i64 least] w (fun e w' => e = .returned (.bool (okX p least)) ∧ w = w'):=by
 unfold okX
 by_cases q1 : least ≤ p
 ·have b1 : decide (least ≤ p) = true:=decide_eq_true q1
  rw [b1, Bool.true_and]
  go_enter Tryz.func54, Tryz.ntmps54
  go_wp2_with fail
  go_ret
  exact ⟨rfl, rfl⟩
 ·have b1 : decide (least ≤ p) = false:=decide_eq_false q1
  rw [b1, Bool.false_and]
  go_enter Tryz.func54, Tryz.ntmps54
  go_wp2_with fail
  go_ret
  exact ⟨rfl, rfl⟩
set_option maxHeartbeats 8000000 in
theorem xpart_any (Y : Int) (p k : Nat) (vx : Value) (w : World) (hx : IsD w vx (mkM Y (-(p : Int))) (mkE Y (-(p : Int)))) (hY : AbP Y p) (hp : p ≤ 700) (hk : 1 ≤ k) (hk2 : k ≤ 1000000) (hT : Tab w) :
  Calls Tryz.prog 168 #[vx, .int .i64 (k : Int), .int .i64 (p : Int)] w (RetD8 w (mkM (Y / (k : Int)) (-(p : Int))) (mkE (Y / (k : Int)) (-(p : Int)))):=by
 obtain ⟨A, c, rfl, _, hn⟩:=hx.form
 have L0:=(Lq.mk0 w).n hn
 obtain ⟨a1, a2, a3, a4, a5⟩:=np hY (by omega) (show p ≤ 3000 by omega)
 obtain ⟨s1, s2, s3⟩:=np_same a4 (by omega) (by omega)
 have hZ : AbP (Y / (k : Int)) p:=Nat.le_trans (Int.natAbs_ediv_le_natAbs _ _) hY
 obtain ⟨b1, b2, b3, b4, b5⟩:=np hZ (by omega) (show p ≤ 3000 by omega)
 obtain ⟨r1, r2, r3⟩:=np_same b4 (by omega) (by omega)
 have hkb : AbP (k : Int) 20:=by
  have e : (2 : Nat) ^ 20 = 1048576:=by decide
  unfold AbP
  rw [e]
  omega
 obtain ⟨k1, _, k3, k4, _, _⟩:=nf hkb (by omega)
 have k2 : zl (mkM (k : Int) 0) ≤ 1:=Nat.le_trans (zl_mk _ _) (Nat.le_trans hkb.zl (by omega))
 have kdv : Dv (mkM (k : Int) 0) (mkE (k : Int) 0):=mk_ok k1
 have k5 : mkE (k : Int) 0 ≤ 100:=by rcases mkE_at k1 hkb.zl with e | e <;> omega
 have g1:=fun x W h (hW : Below w.heap.size w W) => dshift_any (mkM Y (-(p : Int))) (mkE Y (-(p : Int))) 0 x W h (by omega) (by omega) (by omega) (hT.mono hW)
 rw [s1, s2, s3] at g1
 have g2:=fun x W h => i10point_any (mkM Y (-(p : Int))) (mkE Y (-(p : Int))) x W h (by omega) (by omega) a4
 have g3:=fun W (hW : Below w.heap.size w W) => dof_any (k : Int) W (by omega) (by omega) (hT.mono hW)
 have g4:=fun x W h => i10point_any (mkM (k : Int) 0) (mkE (k : Int) 0) x W h (by omega) (by omega) kdv
 obtain ⟨q1, q2, q3⟩:=np_div hY hp hk hk2
 have g5:=fun x y W h j (hW : Below w.heap.size w W) => adiv_pos (mkM Y (-(p : Int))) (mkE Y (-(p : Int))) (mkM Y (-(p : Int))) (mkE Y (-(p : Int))) (mkM (k : Int) 0) (mkE (k : Int) 0) (mkM (k : Int) 0) (mkE (k : Int) 0) (p : Int) x y W h j (by omega) (by omega) (by omega) (by omega) (by omega) (by omega) (by omega) (by omega) (by rw [dcm_self]; omega) (by rw [dcm_self]; omega) (by omega) (by omega) (hT.mono hW) q1 rfl (by rw [q2]; omega) (by rw [q2]; omega)
 simp only [q3] at g5
 have g6:=fun x W h (hW : Below w.heap.size w W) => dshift_any (mkM (Y / (k : Int)) (-(p : Int))) (mkE (Y / (k : Int)) (-(p : Int))) 0 x W h (by omega) (by omega) (by omega) (hT.mono hW)
 rw [r1, r2, r3] at g6
 have w1 : IntKind.i64.wrap ((p : Int) - 4096) = (p : Int) - 4096:=by rw [IntKind.wrap_i64]; omega
 have w2 : max ((p : Int) - 4096) 0 = 0:=by omega
 have w3 : IntKind.i64.wrap (p : Int) = (p : Int):=by rw [IntKind.wrap_i64]; omega
 clear q1 q2 q3 a1 a2 a3 a4 a5 s1 s2 s3 b1 b2 b3 b4 b5 r1 r2 r3 k1 k2 k3 k4 k5 kdv hkb hZ hY hT hx
 generalize mkM (Y / (k : Int)) (-(p : Int)) = Z at *
 generalize mkE (Y / (k : Int)) (-(p : Int)) = Q at *
 generalize upM (dq Y (-(p : Int)) / (k : Rat)) (p : Int) = U at *
 generalize upE (dq Y (-(p : Int)) / (k : Rat)) (p : Int) = V at *
 generalize mkM Y (-(p : Int)) = M at *
 generalize mkE Y (-(p : Int)) = E at *
 generalize mkM (k : Int) 0 = K at *
 generalize mkE (k : Int) 0 = F at *
 have G1:=Lib.hid g1
 have G2:=Lib.hid g2
 have G3:=Lib.hid g3
 have G4:=Lib.hid g4
 have G5:=Lib.hid g5
 have G6:=Lib.hid g6
 clear g1 g2 g3 g4 g5 g6 hk hk2
 go_enter Tryz.func168, Tryz.ntmps168
 have L:=((L0.varD (w.heap.size) (by simp) (ng M) A (zl M) c E).varD (w.heap.size + 1) (by simp) false none 0 0 0)
 have c10:=L.tl.b0.c30
 have c11:=L.tl.b0.c31
 have c12:=L.tl.b0.c32
 (try go_wp2_with fail)
 refine (G1.out _ _ (isD_n (m:=M) (e:=E) (s:=.slice A (zl M) c) (L.getN (by simp))) L.below).mono ?_
 rintro e w1 ⟨v9, rfl, iz, be⟩
 clear c10 c11 c12
 obtain ⟨A1, c1, rfl, _, in9⟩:=iz.form
 replace L:=(L.step be).n in9
 clear be iz in9
 have hl9:=L.b0.lt
 replace L:=L.varD w1.heap.size rfl (ng M) A1 (zl M) c1 E
 have c00:=L.b0.c30
 have c01:=L.b0.c31
 have c02:=L.b0.c32
 go_wp2_with fail
 clear c00 c01 c02
 obtain ⟨g1, hg1⟩ : ∃ g9, w1.heap.size = g9:=⟨_, rfl⟩
 rw [hg1] at L hl9 ⊢
 clear hg1
 have hl_g1:=hl9
 clear hl9
 refine (G2.out _ _ (isD_n (m:=M) (e:=E) (s:=.slice A1 (zl M) c1) (L.getN (by simp)))).mono ?_
 rintro e w2 ⟨v9, rfl, ii, be⟩
 obtain ⟨A2, c2, B2, d2, rfl, ia, ib⟩:=ii.form
 replace L:=((L.step be).n ib).n ia
 clear be ii ia ib
 (try go_wp2_with fail)
 refine (G3.out _ L.below).mono ?_
 rintro e w3 ⟨v9, rfl, iz, be⟩
 obtain ⟨A3, c3, rfl, _, in9⟩:=iz.form
 replace L:=(L.step be).n in9
 clear be iz in9
 (try go_wp2_with fail)
 refine (G4.out _ _ (isD_n (m:=K) (e:=F) (s:=.slice A3 (zl K) c3) (L.getN (by simp)))).mono ?_
 rintro e w4 ⟨v9, rfl, ii, be⟩
 obtain ⟨A4, c4, B4, d4, rfl, ia, ib⟩:=ii.form
 replace L:=((L.step be).n ib).n ia
 clear be ii ia ib
 (try go_wp2_with fail)
 refine (G5.out _ _ _ (isI_n (m:=M) (e:=E) (n:=M) (f:=E) (s:=.slice A2 (zl M) c2) (t:=.slice B2 (zl M) d2) (L.getN (by simp)) (L.getN (by simp))) (isI_n (m:=K) (e:=F) (n:=K) (f:=F) (s:=.slice A4 (zl K) c4) (t:=.slice B4 (zl K) d4) (L.getN (by simp)) (L.getN (by simp))) L.below).mono ?_
 rintro e w5 ⟨v9, rfl, ii, be⟩
 obtain ⟨A5, c5, B5, d5, rfl, ia, ib⟩:=ii.form
 replace L:=((L.step be).n ib).n ia
 clear be ii ia ib
 have hl9:=L.b0.lt
 replace L:=L.varI w5.heap.size rfl (ng Z) A5 (zl Z) c5 Q (ng U) B5 (zl U) d5 V
 have c00:=L.b0.c60
 have c01:=L.b0.c61
 have c02:=L.b0.c62
 have c03:=L.b0.c63
 have c04:=L.b0.c64
 have c05:=L.b0.c65
 go_wp2_with fail
 clear c00 c01 c02 c03 c04 c05
 obtain ⟨g2, hg2⟩ : ∃ g9, w5.heap.size = g9:=⟨_, rfl⟩
 rw [hg2] at L hl9 ⊢
 clear hg2
 have hl_g2:=hl9
 clear hl9
 refine (G6.out _ _ (isD_n (m:=Z) (e:=Q) (s:=.slice A5 (zl Z) c5) (L.getN (by simp))) L.below).mono ?_
 rintro e w6 ⟨v9, rfl, iz, be⟩
 obtain ⟨A6, c6, rfl, _, in9⟩:=iz.form
 replace L:=(L.step be).n in9
 clear be iz in9
 have hl9:=L.b0.lt
 have L9:=L.subx (ns':=[(.slice A6 (zl Z) c6, Z.natAbs)]) (bs':=[(w.heap.size + 1, 26, #[.bool false, .slice none 0 0, .int .i64 0])]) (by simp) (by simp)
 clear L
 have L:=L9
 clear L9
 have n1 : w.heap.size + 1 ≠ w6.heap.size:=by omega
 have c00:=L.b0.c30
 have f00:=L.b0.fr 0
 have c01:=L.b0.c31
 have f01:=L.b0.fr 1
 have c02:=L.b0.c32
 have f02:=L.b0.fr 2
 have LN:=L.varD w6.heap.size rfl (ng Z) A6 (zl Z) c6 Q
 have v0:=LN.b0.c30
 have v1:=LN.b0.c31
 have v2:=LN.b0.c32
 have v3:=LN.tl.b0.c30
 have v4:=LN.tl.b0.c31
 have v5:=LN.tl.b0.c32
 have v6:=LN.tl.b0.fr 0
 have v7:=LN.tl.b0.fr 1
 have v8:=LN.tl.b0.fr 2
 go_wp2_with fail
 clear c00 f00 c01 f01 c02 f02
 clear v0 v1 v2 v3 v4 v5 v6 v7 v8
 clear L
 have L:=LN.swap
 clear LN
 have LP:=L.putD (by omega) (by first | (simp; done) | (simp; omega)) (ng Z) A6 (zl Z) c6 (Q)
 have k0:=LP.b0.c30
 have k1:=LP.b0.c31
 have k2:=LP.b0.c32
 unfold put3 at k0 k1 k2
 exact bodyPost_ret (v:=.agg #[.bool (ng Z), .slice A6 (zl Z) c6, .int .i64 (Q)]) (by simp [results, Tryz.results168, go_sem, k0, k1, k2]) rfl ⟨_, rfl, isD_n (LP.getN (by simp)), LP.below⟩
theorem plainG (b : Bool) (A : Option Addr) (n c : Nat) (e p : Int) : Plain #[.bool b, .slice A n c, .int .i64 e, .int .i64 p]:=fun j x => by
 match j with
 | 0 => simp
 | 1 => simp
 | 2 => simp
 | 3 => simp
 | j + 4 => simp
theorem Lq.varG {w0 w : World} {ns : List (Value × Nat)} {zs : List (Value × Int)} {qs : List (Value × Int × Nat)} {bs : List (Nat × TypeId × Array Value)} (h : Lq w0 w ns zs qs bs) (g : Nat) (hg : g = w.heap.size) (b : Bool) (A : Option Addr) (n c : Nat) (e p : Int) : Lq w0 (w.alloc (.cells #[.bool b, .slice A n c, .int .i64 e, .int .i64 p] 120)) ns zs qs ((g, 120, #[.bool b, .slice A n c, .int .i64 e, .int .i64 p]) :: bs):=h.var g hg _ _ (plainG _ _ _ _ _ _)

set_option maxHeartbeats 8000000 in
theorem xnext_any (X T : Int) (p k : Nat) (A : Option Addr) (c : Nat) (vt : Value) (w : World) (hx : IsN w (.slice A (zl (mkM X (-(p : Int)))) c) (mkM X (-(p : Int))).natAbs) (ht : IsD w vt (mkM T (-(p : Int))) (mkE T (-(p : Int)))) (hX : AbP X p) (hTa : AbP T p) (hTX : AbP (T * X / 2 ^ p) p) (hp : p ≤ 700) (hk : 1 ≤ k) (hk2 : k ≤ 1000000) (hT : Tab w) :
  Calls Tryz.prog 111 #[.agg #[.bool (ng (mkM X (-(p : Int)))), .slice A (zl (mkM X (-(p : Int)))) c, .int .i64 (mkE X (-(p : Int))), .int .i64 (p : Int)], vt, .int .i64 (k : Int)] w (RetD8 w (mkM (pwT X p k T) (-(p : Int))) (mkE (pwT X p k T) (-(p : Int)))):=by
 obtain ⟨A2, c2, rfl, _, hn⟩:=ht.form
 have L0:=((Lq.mk0 w).n hn).n hx
 unfold pwT
 obtain ⟨M4, hM4⟩ : ∃ z, mkM (mkM T (-(p : Int)) * mkM X (-(p : Int))) (mkE T (-(p : Int)) + mkE X (-(p : Int))) = z:=⟨_, rfl⟩
 obtain ⟨E4, hE4⟩ : ∃ z, mkE (mkM T (-(p : Int)) * mkM X (-(p : Int))) (mkE T (-(p : Int)) + mkE X (-(p : Int))) = z:=⟨_, rfl⟩
 obtain ⟨a1, a2, a3, a4, a5⟩:=np hTa (by omega) (show p ≤ 3000 by omega)
 obtain ⟨b1, b2, b3, b4, b5⟩:=np hX (by omega) (show p ≤ 3000 by omega)
 obtain ⟨m1, m2, m3, m4, m5, m6⟩:=np_mul hTa hX (by omega) (by omega) (show p ≤ 1400 by omega) M4 E4 hM4 hE4
 have g1:=fun x y W h j (hW : Below w.heap.size w W) => dmul_any (mkM T (-(p : Int))) (mkE T (-(p : Int))) (mkM X (-(p : Int))) (mkE X (-(p : Int))) x y W h j (by omega) (by omega) (by omega) (by omega) (hT.mono hW)
 rw [hM4, hE4, m1] at g1
 have g2:=fun x W h (hW : Below w.heap.size w W) => gfloor_any M4 E4 (p : Int) x W h (by omega) (by omega) (by omega) (by omega) (hT.mono hW)
 rw [m4, m5, m6] at g2
 have g3:=fun x W h (hW : Below w.heap.size w W) => xpart_any (T * X / 2 ^ p) p k x W h hTX hp hk hk2 (hT.mono hW)
 clear a1 a2 a3 a4 a5 b1 b2 b3 b4 b5 m1 m2 m3 m4 m5 m6 hM4 hE4 hX hTa hTX hp hk hk2 ht hx hn hT
 generalize mkM (T * X / 2 ^ p / (k : Int)) (-(p : Int)) = Z at *
 generalize mkE (T * X / 2 ^ p / (k : Int)) (-(p : Int)) = Q at *
 generalize mkM (T * X / 2 ^ p) (-(p : Int)) = Mf at *
 generalize mkE (T * X / 2 ^ p) (-(p : Int)) = Ef at *
 generalize mkM X (-(p : Int)) = Mx at *
 generalize mkE X (-(p : Int)) = Ex at *
 generalize mkM T (-(p : Int)) = M at *
 generalize mkE T (-(p : Int)) = E at *
 have G1:=Lib.hid g1
 have G2:=Lib.hid g2
 have G3:=Lib.hid g3
 clear g1 g2 g3
 go_enter Tryz.func111, Tryz.ntmps111
 have L:=(((L0.varG (w.heap.size) (by simp) (ng Mx) A (zl Mx) c Ex (p : Int)).varD (w.heap.size + 1) (by simp) (ng M) A2 (zl M) c2 E).varD (w.heap.size + 2) (by simp) false none 0 0 0)
 have c10:=L.tl.b0.c30
 have c11:=L.tl.b0.c31
 have c12:=L.tl.b0.c32
 have c20:=L.tl.tl.b0.c40
 have c21:=L.tl.tl.b0.c41
 have c22:=L.tl.tl.b0.c42
 have c23:=L.tl.tl.b0.c43
 (try go_wp2_with fail)
 refine (G1.out _ _ _ (isD_n (m:=M) (e:=E) (s:=.slice A2 (zl M) c2) (L.getN (by simp))) (isD_n (m:=Mx) (e:=Ex) (s:=.slice A (zl Mx) c) (L.getN (by simp))) L.below).mono ?_
 rintro e w1 ⟨v9, rfl, iz, be⟩
 clear c10 c11 c12 c20 c21 c22 c23
 obtain ⟨A4, c4, rfl, _, in9⟩:=iz.form
 replace L:=(L.step be).n in9
 clear be iz in9
 have hl9:=L.b0.lt
 replace L:=L.varD w1.heap.size rfl (ng M4) A4 (zl M4) c4 E4
 have c00:=L.b0.c30
 have c01:=L.b0.c31
 have c02:=L.b0.c32
 have c30:=L.tl.tl.tl.b0.c40
 have c31:=L.tl.tl.tl.b0.c41
 have c32:=L.tl.tl.tl.b0.c42
 have c33:=L.tl.tl.tl.b0.c43
 go_wp2_with fail
 clear c00 c01 c02 c30 c31 c32 c33
 obtain ⟨g1, hg1⟩ : ∃ g9, w1.heap.size = g9:=⟨_, rfl⟩
 rw [hg1] at L hl9 ⊢
 clear hg1
 have hl_g1:=hl9
 clear hl9
 refine (G2.out _ _ (isD_n (m:=M4) (e:=E4) (s:=.slice A4 (zl M4) c4) (L.getN (by simp))) L.below).mono ?_
 rintro e w2 ⟨v9, rfl, iz, be⟩
 obtain ⟨A5, c5, rfl, _, in9⟩:=iz.form
 replace L:=(L.step be).n in9
 clear be iz in9
 have c00:=L.b0.c30
 have f00:=L.b0.fr 0
 have c01:=L.b0.c31
 have f01:=L.b0.fr 1
 have c02:=L.b0.c32
 have f02:=L.b0.fr 2
 have c30:=L.tl.tl.tl.b0.c40
 have c31:=L.tl.tl.tl.b0.c41
 have c32:=L.tl.tl.tl.b0.c42
 have c33:=L.tl.tl.tl.b0.c43
 have P:=L.putD (by omega) (by first | (simp; done) | (simp; omega)) (ng Mf) A5 (zl Mf) c5 Ef
 have p0:=P.b0.c30
 have p1:=P.b0.c31
 have p2:=P.b0.c32
 have p3:=P.tl.tl.tl.b0.c43
 unfold put3 at p0 p1 p2 p3 P
 go_wp2_with fail
 replace L:=P
 clear P p0 p1 p2 p3
 clear c00 f00 c01 f01 c02 f02 c30 c31 c32 c33
 refine (G3.out _ _ (isD_n (m:=Mf) (e:=Ef) (s:=.slice A5 (zl Mf) c5) (L.getN (by simp))) L.below).mono ?_
 rintro e w3 ⟨v9, rfl, iz, be⟩
 obtain ⟨A6, c6, rfl, _, in9⟩:=iz.form
 replace L:=(L.step be).n in9
 clear be iz in9
 have L9:=L.subx (ns':=[(.slice A6 (zl Z) c6, Z.natAbs)]) (bs':=[(w.heap.size + 2, 26, #[.bool false, .slice none 0 0, .int .i64 0])]) (by simp) (by simp)
 clear L
 have L:=L9
 clear L9
 have c00:=L.b0.c30
 have f00:=L.b0.fr 0
 have c01:=L.b0.c31
 have f01:=L.b0.fr 1
 have c02:=L.b0.c32
 have f02:=L.b0.fr 2
 go_wp2_with fail
 clear c00 f00 c01 f01 c02 f02
 have LP:=L.putD (by omega) (by first | (simp; done) | (simp; omega)) (ng Z) A6 (zl Z) c6 (Q)
 have k0:=LP.b0.c30
 have k1:=LP.b0.c31
 have k2:=LP.b0.c32
 unfold put3 at k0 k1 k2
 exact bodyPost_ret (v:=.agg #[.bool (ng Z), .slice A6 (zl Z) c6, .int .i64 (Q)]) (by simp [results, Tryz.results111, go_sem, k0, k1, k2]) rfl ⟨_, rfl, isD_n (LP.getN (by simp)), LP.below⟩

theorem np_one {p : Nat} (hp : p ≤ 3000) : mkM 1 0 = mkM (2 ^ p) (-(p : Int)) ∧ mkE 1 0 = mkE (2 ^ p) (-(p : Int)):=by
 obtain ⟨a1, _⟩:=nf (t:=1) (v:=0) (by unfold AbP; decide) (by omega)
 have e : ((2 : Int) ^ p).natAbs = 2 ^ p:=by rw [Int.natAbs_pow]; rfl
 obtain ⟨b1, _⟩:=np (T:=2 ^ p) (p:=p) (j:=p) (Nat.le_of_eq e) hp hp
 exact mk_uniq a1 b1 (by rw [dq_onep]; rfl)
def RetSm (w : World) (X : Int) (p : Nat) (en : Ending) (w' : World) : Prop:=∃ S k, ExR X p k 0 S ∧ RetD8 w (mkM S (-(p : Int))) (mkE S (-(p : Int))) en w'
theorem ExR.sz {X : Int} {p k : Nat} {T S : Int} (h : ExR X p k T S) (hp : p ≤ 700) : AbP T p ∧ AbP S (p + 6) ∧ k ≤ 60:=by
 have h1:=h.fk
 have h2:=h.sa
 refine ⟨h.ta, ?_, by omega⟩
 unfold AbP
 rw [Nat.pow_add, show (2 : Nat) ^ 6 = 64 by decide, Nat.mul_comm]
 exact Nat.le_trans h2 (Nat.mul_le_mul_right _ (by omega))

set_option maxHeartbeats 16000000 in
theorem xsum_any (F : Nat) (hen : ∀ args w, (callFunc F args).run Tryz.prog w = .ok (.enter F args) w) (X : Int) (p : Nat) (recv : Value) (w : World) (hX : X.natAbs * 2 ^ 32 ≤ 2 ^ p) (hp : p ≤ 700) (hT : Tab w) (hf : ∀ (k : Nat) (T : Int) vt W, IsD W vt (mkM T (-(p : Int))) (mkE T (-(p : Int))) → AbP T p → 1 ≤ k → k ≤ 1000 → Below w.heap.size w W → Calls Tryz.prog F #[recv, vt, .int .i64 (k : Int)] W (RetD8 W (mkM (pwT X p k T) (-(p : Int))) (mkE (pwT X p k T) (-(p : Int))))) :
  Calls Tryz.prog 110 #[.func (.func F) #[recv] #[]] w (RetSm w X p):=by
 have HT:=Lib.hid (fun W (hW : Below w.heap.size w W) => hT.mono hW)
 have g1:=fun W (hW : Below w.heap.size w W) => dof_any 1 W (by omega) (by omega) (hT.mono hW)
 obtain ⟨o1, o2⟩:=np_one (p:=p) (by omega)
 rw [o1, o2] at g1
 have HR0:=ExR.first X p
 obtain ⟨P, hP⟩ : ∃ z, (2 : Int) ^ p = z:=⟨_, rfl⟩
 rw [hP] at g1 HR0
 obtain ⟨M, hM⟩ : ∃ z, mkM P (-(p : Int)) = z:=⟨_, rfl⟩
 obtain ⟨E, hE⟩ : ∃ z, mkE P (-(p : Int)) = z:=⟨_, rfl⟩
 rw [hM, hE] at g1
 have HR:=Lib.hid (And.intro HR0 (And.intro (And.intro hM hE) (And.intro hM hE)))
 have G1:=Lib.hid g1
 have HF:=Lib.hid hf
 have HX:=Lib.hid hX
 have HV:=Lib.hid hp
 clear g1 hf hX hp hT HR0 hM hE hP o1 o2
 go_enter Tryz.func110, Tryz.ntmps110
 have L:=((Lq.mk0 w).varD (w.heap.size) (by simp) false none 0 0 0)
 (try go_wp2_with fail)
 refine (G1.out _ L.below).mono ?_
 rintro e w1 ⟨v9, rfl, iz, be⟩
 obtain ⟨A1, c1, rfl, _, in9⟩:=iz.form
 replace L:=(L.step be).n in9
 clear be iz in9
 have hl9:=L.b0.lt
 replace L:=L.varD w1.heap.size rfl (ng M) A1 (zl M) c1 E
 have c00:=L.b0.c30
 have c01:=L.b0.c31
 have c02:=L.b0.c32
 replace L:=L.varD (w1.heap.size + 1) (by simp) (ng M) A1 (zl M) c1 E
 have d00:=L.b0.c30
 have d01:=L.b0.c31
 have d02:=L.b0.c32
 go_wp2_with fail
 clear c00 c01 c02 d00 d01 d02 G1
 obtain ⟨gt, hgt⟩ : ∃ g9, w1.heap.size = g9:=⟨_, rfl⟩
 rw [hgt] at L hl9 ⊢
 clear hgt
 go_loopw [5] (fun i wr => ∃ (k : Nat) (T S M E N K : Int) (A1 A2 : Option Addr) (c1 c2 : Nat), i = .int .i64 (k : Int) ∧ Lq w wr [(.slice A1 (zl M) c1, M.natAbs), (.slice A2 (zl N) c2, N.natAbs)] [] [] [(gt + 1, 26, #[.bool (ng N), .slice A2 (zl N) c2, .int .i64 K]), (gt, 26, #[.bool (ng M), .slice A1 (zl M) c1, .int .i64 E]), (w.heap.size, 26, #[.bool false, .slice none 0 0, .int .i64 0])] ∧ Hid (ExR X p k T S ∧ (mkM T (-(p : Int)) = M ∧ mkE T (-(p : Int)) = E) ∧ mkM S (-(p : Int)) = N ∧ mkE S (-(p : Int)) = K)) (fun i _ => 100 - (intOf i).toNat)
 case atStart => exact ⟨1, P, P, M, E, M, E, A1, A1, c1, c1, by go_num, L.subx (by simp) (by simp), HR⟩
 case round =>
  clear L HR
  obtain ⟨k, T, S, M, E, N, K, A1, A2, c1, c2, rfl, L, HR⟩:=hrel
  obtain ⟨hI, ⟨hM, hE⟩, hN, hK⟩:=HR.out
  have hp:=HV.out
  obtain ⟨zt, zs, hk⟩:=hI.sz hp
  obtain ⟨a1, a2, a3, a4, a5⟩:=np zt (by omega) (show p ≤ 3000 by omega)
  have r5:=np_sign zt (by omega) (show p ≤ 3000 by omega)
  have g2:=fun x W h => dsign_any (mkM T (-(p : Int))) (mkE T (-(p : Int))) x W h (by omega)
  rw [hM, hE] at g2
  rw [hM] at r5
  obtain ⟨sg9, hsg9⟩ : ∃ z, cmpI M 0 = z:=⟨_, rfl⟩
  rw [hsg9] at g2 r5
  have G2:=Lib.hid g2
  have HI:=Lib.hid hI
  have HZ:=Lib.hid (And.intro zt zs)
  clear g2 a1 a2 a3 a4 a5 hsg9 zt zs hp hI
  have hl0:=L.tl.b0.lt
  replace L:=L.swap
  have cel00:=L.b0.c30
  have cel01:=L.b0.c31
  have cel02:=L.b0.c32
  (try go_wp2_with fail)
  refine (G2.out _ _ (isD_n (m:=M) (e:=E) (s:=.slice A1 (zl M) c1) (L.getN (by simp)))).mono ?_
  rintro e w11 ⟨rfl, be⟩
  clear cel00 cel01 cel02
  replace L:=L.step be
  clear be
  by_cases h0 : T = 0
  ·subst h0
   have r6 : (sg9 != 0) = false:=r5.trans (by simp)
   have hq:=HI.out
   clear r5 HI HR HF HX HZ hM hE
   have L9:=L.subx (ns':=[(.slice A2 (zl N) c2, N.natAbs)]) (bs':=[(w.heap.size, 26, #[.bool false, .slice none 0 0, .int .i64 0]), (gt + 1, 26, #[.bool (ng N), .slice A2 (zl N) c2, .int .i64 K])]) (by simp) (by simp)
   clear L
   have L:=L9
   clear L9
   have cel00:=L.b0.c30
   have f00:=L.b0.fr 0
   have cel01:=L.b0.c31
   have f01:=L.b0.fr 1
   have cel02:=L.b0.c32
   have f02:=L.b0.fr 2
   have cel10:=L.tl.b0.c30
   have cel11:=L.tl.b0.c31
   have cel12:=L.tl.b0.c32
   (try go_wp2_with fail)
   clear cel00 f00 cel01 f01 cel02 f02 cel10 cel11 cel12
   subst hN hK
   have LP:=L.putD (by omega) (by first | (simp; done) | (simp; omega)) (ng (mkM S (-(p : Int)))) A2 (zl (mkM S (-(p : Int)))) c2 (mkE S (-(p : Int)))
   have k0:=LP.b0.c30
   have k1:=LP.b0.c31
   have k2:=LP.b0.c32
   unfold put3 at k0 k1 k2
   exact bodyPost_ret (v:=.agg #[.bool (ng (mkM S (-(p : Int)))), .slice A2 (zl (mkM S (-(p : Int)))) c2, .int .i64 (mkE S (-(p : Int)))]) (by simp [results, Tryz.results110, go_sem, k0, k1, k2]) rfl ⟨S, k, hq, _, rfl, isD_n (LP.getN (by simp)), LP.below⟩
  ·have r6 : (sg9 != 0) = true:=r5.trans (decide_eq_true h0)
   have hI:=HI.out
   have hX:=HX.out
   have hp:=HV.out
   obtain ⟨zt, zs⟩:=HZ.out
   have hI2:=hI.step hX h0
   obtain ⟨zt2, zs2, hk2⟩:=hI2.sz hp
   have g3:=fun vt W h1 h2 => HF.out k T vt W h1 zt hI.k1 (by omega) h2
   have zu:=zt2.up (show p ≤ p + 6 by omega)
   obtain ⟨_, b2, b3, _, _⟩:=np zs (by omega) (show p ≤ 3000 by omega)
   obtain ⟨_, d2, d3, _, _⟩:=np zu (by omega) (show p ≤ 3000 by omega)
   obtain ⟨a1, a2, a3⟩:=np_add zs zu (by omega) (show p ≤ 2900 by omega)
   obtain ⟨T2, hT2⟩ : ∃ z, pwT X p k T = z:=⟨_, rfl⟩
   rw [hT2] at g3 a1 a2 a3 d2 d3 hI2
   have g4:=fun x y W h j (hW : Below w.heap.size w W) => dadd_any (mkM S (-(p : Int))) (mkE S (-(p : Int))) (mkM T2 (-(p : Int))) (mkE T2 (-(p : Int))) x y W h j (by omega) (by omega) (by omega) (by omega) (HT.out W hW)
   rw [a1, a2, a3] at g4
   obtain ⟨S2, hS2⟩ : ∃ z, S + T2 = z:=⟨_, rfl⟩
   rw [hS2] at g4 hI2
   rw [hN, hK] at g4
   rw [hM, hE] at g3
   obtain ⟨M2, hM2⟩ : ∃ z, mkM T2 (-(p : Int)) = z:=⟨_, rfl⟩
   obtain ⟨E2, hE2⟩ : ∃ z, mkE T2 (-(p : Int)) = z:=⟨_, rfl⟩
   obtain ⟨N2, hN2⟩ : ∃ z, mkM S2 (-(p : Int)) = z:=⟨_, rfl⟩
   obtain ⟨K2, hK2⟩ : ∃ z, mkE S2 (-(p : Int)) = z:=⟨_, rfl⟩
   rw [hM2, hE2] at g3 g4
   rw [hN2, hK2] at g4
   have G3:=Lib.hid g3
   have G4:=Lib.hid g4
   have HQ:=Lib.hid (And.intro hI2 (And.intro (And.intro hM2 hE2) (And.intro hN2 hK2)))
   have w3 : IntKind.i64.wrap ((k : Int) + 1) = (k : Int) + 1:=by rw [IntKind.wrap_i64]; omega
   clear g3 g4 hI2 hM2 hE2 hN2 hK2 hS2 hT2 a1 a2 a3 b2 b3 d2 d3 zt2 zs2 zu zt zs hI hX hp r5 HR HI HZ hM hE hN hK hk2
   have cel00:=L.b0.c30
   have f00:=L.b0.fr 0
   have cel01:=L.b0.c31
   have f01:=L.b0.fr 1
   have cel02:=L.b0.c32
   have f02:=L.b0.fr 2
   (try go_wp2_with fail)
   refine (G3.out _ _ (isD_n (m:=M) (e:=E) (s:=.slice A1 (zl M) c1) (L.getN (by simp))) L.below).mono ?_
   rintro e w31 ⟨v9, rfl, iz, be⟩
   clear cel00 f00 cel01 f01 cel02 f02
   obtain ⟨A3, c3, rfl, _, in9⟩:=iz.form
   replace L:=(L.step be).n in9
   clear be iz in9
   have cel00:=L.b0.c30
   have f00:=L.b0.fr 0
   have cel01:=L.b0.c31
   have f01:=L.b0.fr 1
   have cel02:=L.b0.c32
   have f02:=L.b0.fr 2
   have cel10:=L.tl.b0.c30
   have cel11:=L.tl.b0.c31
   have cel12:=L.tl.b0.c32
   have P:=L.putD (by omega) (by simp; omega) (ng M2) A3 (zl M2) c3 E2
   have p0:=P.b0.c30
   have p1:=P.b0.c31
   have p2:=P.b0.c32
   have p3:=P.tl.b0.c30
   have p4:=P.tl.b0.c31
   have p5:=P.tl.b0.c32
   unfold put3 at p0 p1 p2 p3 p4 p5 P
   go_wp2_with fail
   replace L:=P
   clear P p0 p1 p2 p3 p4 p5
   clear cel00 f00 cel01 f01 cel02 f02 cel10 cel11 cel12
   refine (G4.out _ _ _ (isD_n (m:=N) (e:=K) (s:=.slice A2 (zl N) c2) (L.getN (by simp))) (isD_n (m:=M2) (e:=E2) (s:=.slice A3 (zl M2) c3) (L.getN (by simp))) L.below).mono ?_
   rintro e w32 ⟨v9, rfl, iz, be⟩
   obtain ⟨A4, c4, rfl, _, in9⟩:=iz.form
   replace L:=(L.step be).n in9
   clear be iz in9
   replace L:=L.swap
   have cel00:=L.b0.c30
   have f00:=L.b0.fr 0
   have cel01:=L.b0.c31
   have f01:=L.b0.fr 1
   have cel02:=L.b0.c32
   have f02:=L.b0.fr 2
   have P:=L.putD (by omega) (by simp; omega) (ng N2) A4 (zl N2) c4 K2
   unfold put3 at P
   go_wp2_with fail
   go_roundw
   case rel => exact ⟨k + 1, T2, S2, M2, E2, N2, K2, A3, A4, c3, c4, by go_num, P.subx (by simp) (by simp), HQ⟩
   case measure => simp [intOf]; omega

set_option maxHeartbeats 8000000 in
theorem xwhole_any (n : Int) (vx : Value) (w : World) (hx : IsD w vx (mkM n 0) (mkE n 0)) (hn : -2000000000 ≤ n ∧ n ≤ 2000000000) :
  Calls Tryz.prog 92 #[vx] w (RetI w n):=by
 have hb : AbP n 31:=by
  have e : (2 : Nat) ^ 31 = 2147483648:=by decide
  unfold AbP
  rw [e]
  omega
 obtain ⟨a1, _, a3, a4, a5, _⟩:=nf hb (by omega)
 have bz:=nf_zero hb (by omega)
 have a2 : zl (mkM n 0) ≤ 1:=Nat.le_trans (zl_mk _ _) (Nat.le_trans hb.zl (by omega))
 have g1:=fun x W h => dsign_any (mkM n 0) (mkE n 0) x W h (by omega)
 obtain ⟨A, c, rfl, _, hs⟩:=hx.form
 have L0:=(Lq.mk0 w).n hs
 obtain ⟨M, hM⟩ : ∃ z, mkM n 0 = z:=⟨_, rfl⟩
 obtain ⟨k, hk⟩ : ∃ k : Nat, mkE n 0 = (k : Int):=⟨(mkE n 0).toNat, by omega⟩
 rw [hM, hk] at g1 a5
 rw [hM] at bz a2 hs L0 ⊢
 rw [hk, show ((k : Int)).toNat = k by omega] at *
 obtain ⟨sg9, hsg9⟩ : ∃ z, cmpI M 0 = z:=⟨_, rfl⟩
 rw [hsg9] at g1
 have G1:=Lib.hid g1
 clear g1 a1 a3 a4 hx hk
 by_cases h0 : n = 0
 ·subst h0
  have r6 : (sg9 == 0) = true:=by rw [← hsg9, bz.2 rfl]; decide
  clear bz a2 a5 hb hs hsg9
  go_enter Tryz.func92, Tryz.ntmps92
  have L:=(L0.varD (w.heap.size) (by simp) (ng M) A (zl M) c (k : Int))
  have c00:=L.b0.c30
  have c01:=L.b0.c31
  have c02:=L.b0.c32
  (try go_wp2_with fail)
  refine (G1.out _ _ (isD_n (m:=M) (e:=(k : Int)) (s:=.slice A (zl M) c) (L.getN (by simp)))).mono ?_
  rintro e w1 ⟨rfl, be⟩
  clear c00 c01 c02
  replace L:=L.step be
  clear be
  (try go_wp2_with fail)
  go_ret
  exact ⟨rfl, L.below⟩
 ·have hM0 : M ≠ 0:=fun e => h0 (bz.1 e)
  have r6 : (sg9 == 0) = false:=by
   rw [← hsg9]
   unfold cmpI
   (repeat' split) <;> first | rfl | omega
  have hz1 : zl M = 1:=by
   have : len M.natAbs ≠ 0:=fun e => by have:=len_eq_zero e; omega
   have e : zl M = len M.natAbs:=rfl
   omega
  obtain ⟨x, hx⟩ : ∃ x, M.natAbs = x:=⟨_, rfl⟩
  have hl1 : len x = 1:=by rw [← hx]; exact hz1
  have hx1 : x < 4294967296:=by
   have:=lt_pow_len x
   rw [hl1] at this; unfold W32 at this; omega
  have hd:=dig_of_len1 hl1
  obtain ⟨A', n', c', e9, hs'⟩:=hs
  rw [hx] at hs'
  rw [hz1] at e9 L0 ⊢
  injection e9 with e1 e2 e3
  subst e1 e2 e3
  obtain ⟨b, off, rfl, hbl, hc⟩:=hs'.place (by omega)
  have hc0:=hc 0 (by omega)
  rw [hd] at hc0
  simp only [nth, List.getD_cons_zero, Nat.add_zero] at hc0
  have hv : x * 2 ^ k = n.natAbs:=by rw [← a5, Int.natAbs_mul, hx, Int.natAbs_pow]; rfl
  have hk31 : k ≤ 31:=by
   have h1 : 1 * 2 ^ k ≤ x * 2 ^ k:=Nat.mul_le_mul_right _ (by omega)
   refine Nat.not_lt.1 fun hlt => ?_
   have h2:=Nat.pow_le_pow_right (n:=2) (by omega) hlt
   have e : (2 : Nat) ^ (31 + 1) = 4294967296:=by decide
   omega
  have hsg : ng M = decide (n < 0):=by
   have hp:=pow2_pos k
   unfold ng
   congr 1
   refine propext ⟨fun h => ?_, fun h => ?_⟩
   ·rw [← a5]
    exact Int.mul_neg_of_neg_of_pos h hp
   ·refine Int.not_le.1 fun hle => ?_
    have:=Int.mul_nonneg hle (Int.le_of_lt hp)
    omega
  have hxi : ((x : Nat) : Int) * 2 ^ k = (n.natAbs : Int):=by rw [← hv]; simp
  clear bz a2 a5 hb hsg9 hd hc hl1 hs' hx hz1
  rcases Int.lt_or_le n 0 with hneg | hpos
  ·have hng : ng M = true:=by rw [hsg, decide_eq_true hneg]
   have HN:=Lib.hid hng
   clear hsg hng
   go_enter Tryz.func92, Tryz.ntmps92
   have L:=(L0.varD (w.heap.size) (by simp) (ng M) (some ⟨b, off, none⟩) 1 c (k : Int))
   have c00:=L.b0.c30
   have c01:=L.b0.c31
   have c02:=L.b0.c32
   (try go_wp2_with fail)
   refine (G1.out _ _ (isD_n (m:=M) (e:=(k : Int)) (s:=.slice (some ⟨b, off, none⟩) 1 c) (L.getN (by simp)))).mono ?_
   rintro e w1 ⟨rfl, be⟩
   clear c00 c01 c02
   replace L:=L.step be
   clear be
   have c00:=L.b0.c30
   have c01:=L.b0.c31
   have c02:=L.b0.c32
   have hc1:=(L.below.cell (p:=⟨b, off, none⟩) hbl).trans hc0
   have hng:=HN.out
   rw [hng] at c00
   have w1 : IntKind.i64.wrap ((x : Nat) : Int) = (x : Int):=by rw [IntKind.wrap_i64]; omega
   have w2 : IntKind.i64.wrap (n.natAbs : Int) = (n.natAbs : Int):=by rw [IntKind.wrap_i64]; omega
   have w3 : ¬ (k : Int) < 0:=by omega
   have w4 : IntKind.i64.wrap (-(n.natAbs : Int)) = -(n.natAbs : Int):=by rw [IntKind.wrap_i64]; omega
   (try go_wp2_with fail)
   go_quiet (fail)
   (try go_wp2_with fail)
   go_ret
   refine ⟨?_, belowN L.below _⟩
   show Ending.returned (.int .i64 (-(n.natAbs : Int))) = _
   rw [show -(n.natAbs : Int) = n by omega]
  ·have hng : ng M = false:=by rw [hsg, decide_eq_false (by omega)]
   have HN:=Lib.hid hng
   clear hsg hng
   go_enter Tryz.func92, Tryz.ntmps92
   have L:=(L0.varD (w.heap.size) (by simp) (ng M) (some ⟨b, off, none⟩) 1 c (k : Int))
   have c00:=L.b0.c30
   have c01:=L.b0.c31
   have c02:=L.b0.c32
   (try go_wp2_with fail)
   refine (G1.out _ _ (isD_n (m:=M) (e:=(k : Int)) (s:=.slice (some ⟨b, off, none⟩) 1 c) (L.getN (by simp)))).mono ?_
   rintro e w1 ⟨rfl, be⟩
   clear c00 c01 c02
   replace L:=L.step be
   clear be
   have c00:=L.b0.c30
   have c01:=L.b0.c31
   have c02:=L.b0.c32
   have hc1:=(L.below.cell (p:=⟨b, off, none⟩) hbl).trans hc0
   have hng:=HN.out
   rw [hng] at c00
   have w1 : IntKind.i64.wrap ((x : Nat) : Int) = (x : Int):=by rw [IntKind.wrap_i64]; omega
   have w2 : IntKind.i64.wrap (n.natAbs : Int) = (n.natAbs : Int):=by rw [IntKind.wrap_i64]; omega
   have w3 : ¬ (k : Int) < 0:=by omega
   have w4 : IntKind.i64.wrap (-(n.natAbs : Int)) = -(n.natAbs : Int):=by rw [IntKind.wrap_i64]; omega
   (try go_wp2_with fail)
   go_quiet (fail)
   (try go_wp2_with fail)
   go_ret
   refine ⟨?_, belowN L.below _⟩
   show Ending.returned (.int .i64 ((n.natAbs : Int))) = _
   rw [show (n.natAbs : Int) = n by omega]
def dgN (c : Int) : Nat:=if c ≤ 0 then 0 else ((3 * c + 1) / 2).toNat
theorem up_one : UpE 1 4:=(exp_up 4 (x:=1) (by decide +kernel)).up (by decide +kernel)
theorem up_two : UpE 2 8:=(exp_up 7 (x:=2) (by decide +kernel)).up (by decide +kernel)
theorem dq_add1 (a b : Int) : dq 1 (a + b) = dq 1 a * dq 1 b:=by
 have:=dq_mul 1 a 1 b
 rwa [Int.one_mul] at this
theorem rp_eight (j : Nat) : rp 8 j = dq 1 (3 * (j : Int)):=by
  induction j with
  | zero => rfl
  | succ j ih =>
    rw [rp_succ, ih, show 3 * ((j + 1 : Nat) : Int) = 3 * (j : Int) + 3 by omega, dq_add1]
    rfl
theorem dg_up {c : Int} {q : Rat} (h : q ≤ (c : Rat)) : UpE q (dq 1 (dgN c : Int)):=by
 unfold dgN
 by_cases hc : c ≤ 0
 ·rw [if_pos hc]
  have h0:=Rat.intCast_le_intCast.2 hc
  exact (exp_0.2.mono (Rat.le_trans h h0)).up Rat.le_refl
 ·rw [if_neg hc]
  obtain ⟨j, hj⟩ : ∃ j : Nat, c = 2 * (j : Int) ∨ c = 2 * (j : Int) + 1:=⟨(c / 2).toNat, by omega⟩
  have h1:=up_two.rp j
  rw [rp_eight] at h1
  rcases hj with e | e
  ·have e2 : (((3 * c + 1) / 2).toNat : Int) = 3 * (j : Int):=by omega
   rw [e2]
   refine h1.mono (Rat.le_trans h ?_)
   rw [e, Rat.intCast_mul, Rat.intCast_natCast, show ((2 : Int) : Rat) = 2 from rfl]
   grind
  ·have e2 : (((3 * c + 1) / 2).toNat : Int) = 3 * (j : Int) + 2:=by omega
   rw [e2, dq_add1]
   refine (h1.add up_one).mono (Rat.le_trans h ?_)
   rw [e, Rat.intCast_add, Rat.intCast_mul, Rat.intCast_natCast, show ((2 : Int) : Rat) = 2 from rfl, show ((1 : Int) : Rat) = 1 from rfl]
   grind
theorem one_dg (n : Nat) : (1 : Rat) ≤ dq 1 (n : Int):=by
  induction n with
  | zero => exact Rat.le_refl
  | succ n ih =>
    rw [show ((n + 1 : Nat) : Int) = (n : Int) + 1 by omega, dq_add1]
    have e : dq 1 1 = 2:=rfl
    rw [e]
    grind
structure PwH (m e : Int) (w h p dg : Nat) : Prop where
 ep : p = w + 32 + h + dg
 up : UpE (dq m e) (dq 1 (dg : Int))
 lo : -dq 1 ((h : Int) - 64) ≤ dq m e
 hi : dq m e ≤ dq 1 ((h : Int) - 64)
 p7 : p ≤ 700
theorem dq_anti {a b : Int} (h : a ≤ b) : dq 1 a ≤ dq 1 b:=by
 obtain ⟨n, rfl⟩ : ∃ n : Nat, b = a + (n : Int):=⟨(b - a).toNat, by omega⟩
 rw [dq_add1]
 have:=Rat.mul_le_mul_of_nonneg_left (one_dg n) (Rat.le_of_lt (dq_pos a))
 grind
def nrX (m e : Int) (h p : Nat) : Int:=(cutQ (dq m (e + -(h : Int))) ((p : Int) + 1) + 1) / 2
theorem dq_hlv (m e h : Int) : dq m (e + -h) = dq m e * dq 1 (-h):=by
 have:=dq_mul m e 1 (-h)
 rwa [Int.mul_one] at this
theorem PwH.arg {m e : Int} {w h p dg : Nat} (H : PwH m e w h p dg) : (nrX m e h p).natAbs * 2 ^ 32 ≤ 2 ^ p ∧ (0 ≤ dq m e → 0 ≤ nrX m e h p) ∧ (dq m e ≤ 0 → nrX m e h p ≤ 0) ∧
  dq (nrX m e h p) (-(p : Int)) ≤ dq m (e + -(h : Int)) + dq 1 (-(p : Int)) ∧ dq m (e + -(h : Int)) ≤ dq (nrX m e h p) (-(p : Int)) + dq 1 (-(p : Int)):=by
 have n1:=near_lo (dq m (e + -(h : Int))) (p : Int)
 have n2:=near_hi (dq m (e + -(h : Int))) (p : Int)
 have hh:=dq_half (p : Int)
 have hu:=dq_pos (-(p : Int))
 have hu2:=dq_pos (-((p : Int) + 1))
 have ep:=H.ep
 have hq:=dq_hlv m e (h : Int)
 have h64 : dq 1 ((h : Int) - 64) * dq 1 (-(h : Int)) = dq 1 (-64):=by rw [← dq_add1]; congr 1; omega
 have hhp:=dq_pos (-(h : Int))
 have q1:=Rat.mul_le_mul_of_nonneg_right H.hi (Rat.le_of_lt hhp)
 have q2:=Rat.mul_le_mul_of_nonneg_right H.lo (Rat.le_of_lt hhp)
 rw [h64, ← hq] at q1
 rw [Rat.neg_mul, h64, ← hq] at q2
 have hX : (cutQ (dq m (e + -(h : Int))) ((p : Int) + 1) + 1) / 2 = nrX m e h p:=rfl
 rw [hX] at n1 n2
 have c32 : dq 1 (-(p : Int)) ≤ dq 1 (-32):=dq_anti (by omega)
 have v32 : dq 1 (-32) = 1 / 4294967296:=by decide +kernel
 have v64 : dq 1 (-64) = 1 / 18446744073709551616:=by decide +kernel
 refine ⟨?_, fun h0 => ?_, fun h0 => ?_, by grind, by grind⟩
 ·have e32 : (2 : Nat) ^ 32 = 4294967296:=by decide
  have eP : (((2 : Nat) ^ p : Nat) : Int) = 2 ^ p:=by simp
  have k1 : nrX m e h p * 4294967296 ≤ 2 ^ p:=by
   refine (dq_le_iff _ _ (-(p : Int))).1 ?_
   rw [dq_onep, dq_scale (nrX m e h p * 4294967296), Rat.intCast_mul]
   rw [dq_scale (nrX m e h p)] at n1
   have e9 : ((4294967296 : Int) : Rat) = 4294967296:=by decide +kernel
   rw [e9]
   rw [v32] at c32
   rw [v64] at q1 q2
   clear v32 v64 h64 hX e9 eP e32 hq
   generalize ((nrX m e h p : Int) : Rat) = X at *
   generalize dq 1 (-(p : Int)) = u at *
   generalize dq 1 (-((p : Int) + 1)) = u2 at *
   generalize dq m (e + -(h : Int)) = q at *
   clear H ep
   grind
  have k2 : -(2 ^ p) ≤ nrX m e h p * 4294967296:=by
   refine (dq_le_iff _ _ (-(p : Int))).1 ?_
   rw [dq_neg, dq_onep, dq_scale (nrX m e h p * 4294967296), Rat.intCast_mul]
   rw [dq_scale (nrX m e h p)] at n2
   have e9 : ((4294967296 : Int) : Rat) = 4294967296:=by decide +kernel
   rw [e9]
   rw [v32] at c32
   rw [v64] at q1 q2
   clear v32 v64 h64 hX e9 eP e32 hq
   generalize ((nrX m e h p : Int) : Rat) = X at *
   generalize dq 1 (-(p : Int)) = u at *
   generalize dq 1 (-((p : Int) + 1)) = u2 at *
   generalize dq m (e + -(h : Int)) = q at *
   clear H ep
   grind
  rw [e32]
  rw [← eP] at k1 k2
  omega
 ·unfold nrX
  have h1 : 0 ≤ dq m (e + -(h : Int)):=by rw [hq]; exact Rat.mul_nonneg h0 (Rat.le_of_lt hhp)
  have : 0 ≤ cutQ (dq m (e + -(h : Int))) ((p : Int) + 1):=by
   unfold cutQ
   refine Rat.le_floor_iff.2 ?_
   exact Rat.mul_nonneg h1 (Rat.le_of_lt (dq_pos _))
  omega
 ·unfold nrX
  have h1 : dq m (e + -(h : Int)) ≤ 0:=by
   rw [hq]
   have:=Rat.mul_nonneg (show 0 ≤ -(dq m e) by grind) (Rat.le_of_lt hhp)
   grind
  have : cutQ (dq m (e + -(h : Int))) ((p : Int) + 1) ≤ 0:=by
   have h2:=cut_lo (dq m (e + -(h : Int))) ((p : Int) + 1)
   have h3:=(dq_le_iff (cutQ (dq m (e + -(h : Int))) ((p : Int) + 1)) 0 (-((p : Int) + 1))).1 (by rw [dq_zero]; exact Rat.le_trans h2 h1)
   exact h3
  omega
def PwL (m e : Int) (h p i : Nat) (s : Int) : Prop:=i ≤ h ∧ ∃ n0, n0 ≤ 1000 ∧ PwB p ((n0 + 1) * 2 ^ i - 1) s ((((2 : Nat) ^ i : Nat) : Rat) * dq m (e + -(h : Int)))
theorem first_num {u x s k : Rat} (hu : 0 < u) (c32 : u ≤ 1 / 4294967296) (hk0 : 0 ≤ k) (hk : k ≤ 60) (hx : -(1 / 8) ≤ x) (b1 : 1 + x ≤ s + (3 * k + 3) * u) (b2 : s - (3 * k + 3) * u ≤ 8 / 7) :
  u ≤ 1 / 2 ∧ s - (3 * k + 3) * u ≤ 2 ∧ s + (3 * k + 3) * u ≤ 2 ∧ (3 * k + 7) * u ≤ 1 / 4 ∧ 0 ≤ s ∧ s - (3 * k + 7) * u ≤ s - (3 * k + 3) * u - 2 * u ∧ s + (3 * k + 3) * u + 4 * u ≤ s + (3 * k + 7) * u:=by
 have h1 : (3 * k + 7) * u ≤ 187 * u:=Rat.mul_le_mul_of_nonneg_right (by grind) (Rat.le_of_lt hu)
 have h2 : 0 ≤ (3 * k + 3) * u:=Rat.mul_nonneg (by grind) (Rat.le_of_lt hu)
 refine ⟨by grind, by grind, by grind, by grind, by grind, by grind, by grind⟩
theorem PwL.first {m e : Int} {w h p dg k : Nat} {S : Int} (H : PwH m e w h p dg) (R : ExR (nrX m e h p) p k 0 S) : PwL m e h p 0 S:=by
 obtain ⟨x1, x2, x3, x4, x5⟩:=H.arg
 have hk2 : 2 ≤ k:=by
  refine Nat.not_lt.1 fun hlt => ?_
  have h1:=R.k1
  obtain rfl : k = 1:=by omega
  have h2:=R.tl.1
  rw [show tm (1 - 1) (dq (nrX m e h p) (-(p : Int))) = 1 from rfl, dq_zero] at h2
  have ep:=H.ep
  have c32 : dq 1 (-(p : Int)) ≤ dq 1 (-32):=dq_anti (by omega)
  have v32 : dq 1 (-32) = 1 / 4294967296:=by decide +kernel
  rw [v32] at c32
  clear x1 x2 x3 x4 x5 R H ep hlt h1 v32
  generalize dq 1 (-(p : Int)) = u at *
  grind
 obtain ⟨l1, l2⟩:=R.last x1 hk2
 have fk:=R.fk
 have p7:=H.p7
 have ep:=H.ep
 have hkb : k ≤ 60:=by omega
 have c32 : dq 1 (-(p : Int)) ≤ dq 1 (-32):=dq_anti (by omega)
 have v32 : dq 1 (-32) = 1 / 4294967296:=by decide +kernel
 have hu:=dq_pos (-(p : Int))
 have hkr : (k : Rat) ≤ 60:=by exact_mod_cast hkb
 have hk0:=nat_nn k
 obtain ⟨x, hx⟩ : ∃ x, dq (nrX m e h p) (-(p : Int)) = x:=⟨_, rfl⟩
 have hxb : -(1 / 8) ≤ x ∧ x ≤ 1 / 8:=by
  have eP : (((2 : Nat) ^ p : Nat) : Int) = 2 ^ p:=by simp
  have h1 : -(2 ^ p) ≤ nrX m e h p * 8:=by rw [← eP]; omega
  have h2 : nrX m e h p * 8 ≤ 2 ^ p:=by rw [← eP]; omega
  have g1:=(dq_le_iff _ _ (-(p : Int))).2 h1
  have g2:=(dq_le_iff _ _ (-(p : Int))).2 h2
  rw [dq_neg, dq_onep, dq_scale (nrX m e h p * 8), Rat.intCast_mul] at g1
  rw [dq_onep, dq_scale (nrX m e h p * 8), Rat.intCast_mul] at g2
  rw [dq_scale (nrX m e h p)] at hx
  have e8 : ((8 : Int) : Rat) = 8:=rfl
  rw [e8] at g1 g2
  clear x1 x2 x3 x4 x5 R H l1 l2 c32 v32 hu hkr hk0
  generalize ((nrX m e h p : Int) : Rat) = X at *
  generalize dq 1 (-(p : Int)) = u at *
  constructor <;> grind
 rw [hx] at l1 l2 x4 x5
 -- the sum lies between 1/2 and 2
 have b1:=(exp_line x).le l2
 have b2 : dq S (-(p : Int)) - (3 * (k : Rat) + 3) * dq 1 (-(p : Int)) ≤ 8 / 7:=by
  obtain ⟨z1, z2⟩:=hxb
  have p1 : 0 < 1 + -x:=by clear x1 x2 x3 x4 x5 R H l1 l2 c32 v32 hu hkr hk0 hx b1; grind
  have g:=(exp_line (-x)).neg p1
  rw [Rat.neg_neg] at g
  refine Rat.le_trans (l1.le g) ?_
  refine le_of_mul (c:=1 + -x) p1 ?_
  have p2 : 1 + -x ≠ 0:=by clear x1 x2 x3 x4 x5 R H l1 l2 c32 v32 hu hkr hk0 hx b1 g; grind
  rw [Rat.inv_mul_cancel _ p2]
  clear x1 x2 x3 x4 x5 R H l1 l2 c32 v32 hu hkr hk0 hx b1 g p2
  grind
 rw [v32] at c32
 obtain ⟨f1, f2, f3, f4, f5, f6, f7⟩:=first_num hu c32 hk0 hkr hxb.1 b1 b2
 obtain ⟨y1, y2⟩:=arg_near hu f1 x4 x5 l1 l2 f2 f3
 have e7 : ((3 * k + 7 : Nat) : Rat) = 3 * (k : Rat) + 7:=by push_cast; rfl
 have hy:=dq_hlv m e (h : Int)
 have hhp:=dq_pos (-(h : Int))
 refine ⟨by omega, 2 * (3 * k + 7), by omega, ?_⟩
 rw [show (2 * (3 * k + 7) + 1) * 2 ^ 0 - 1 = 2 * (3 * k + 7) by rw [Nat.pow_zero]; omega, show (((2 : Nat) ^ 0 : Nat) : Rat) * dq m (e + -(h : Int)) = dq m (e + -(h : Int)) from by rw [Nat.pow_zero]; exact Rat.one_mul _]
 refine PwB.first (y1.down ?_) (y2.up ?_) ?_ (fun h0 => ?_) (fun h0 => ?_)
 ·rw [e7]; exact f6
 ·rw [e7]; exact f7
 ·rw [e7]; exact f4
 ·refine (R.sp (x2 ?_)).2
  rw [hy] at h0
  clear x1 x2 x3 x4 x5 R H l1 l2 c32 v32 hu hkr hk0 hx b1 b2 f1 f2 f3 f4 f5 f6 f7 y1 y2 e7 hxb
  generalize dq m e = D at *
  generalize dq 1 (-(h : Int)) = H2 at *
  refine Rat.not_lt.1 fun hlt => ?_
  have:=Rat.mul_pos (show 0 < -D by grind) hhp
  grind
 ·have hd : dq m e ≤ 0:=by
   rw [hy] at h0
   clear x1 x2 x3 x4 x5 R H l1 l2 c32 v32 hu hkr hk0 hx b1 b2 f1 f2 f3 f4 f5 f6 f7 y1 y2 e7 hxb
   generalize dq m e = D at *
   generalize dq 1 (-(h : Int)) = H2 at *
   refine Rat.not_lt.1 fun hlt => ?_
   have:=Rat.mul_pos hlt hhp
   grind
  refine ⟨?_, (R.sn (x3 hd)).1⟩
  refine (dq_le_iff 0 S (-(p : Int))).1 ?_
  rw [dq_zero]
  exact f5
theorem PwL.step {m e : Int} {h p i : Nat} {s : Int} (L : PwL m e h p i s) (hi : i < h) : PwL m e h p (i + 1) (s * s / 2 ^ p):=by
 obtain ⟨_, n0, h0, b⟩:=L
 refine ⟨by omega, n0, h0, ?_⟩
 have:=b.step
 have hp:=Nat.pow_pos (n:=i) (show 0 < 2 by omega)
 have h1 : 1 ≤ (n0 + 1) * 2 ^ i:=Nat.mul_pos (by omega) hp
 have e1 : 2 * ((n0 + 1) * 2 ^ i - 1) + 1 = (n0 + 1) * 2 ^ (i + 1) - 1:=by
  rw [Nat.pow_succ, ← Nat.mul_assoc]
  omega
 have e2 : 2 * ((((2 : Nat) ^ i : Nat) : Rat) * dq m (e + -(h : Int))) = (((2 : Nat) ^ (i + 1) : Nat) : Rat) * dq m (e + -(h : Int)):=by
  rw [Nat.pow_succ, Rat.natCast_mul, show ((2 : Nat) : Rat) = 2 from rfl]
  grind
 rwa [e1, e2] at this
theorem nat_dq (n : Nat) : (((2 : Nat) ^ n : Nat) : Rat) = dq 1 (n : Int):=by
  induction n with
  | zero => rfl
  | succ n ih =>
    rw [Nat.pow_succ, Rat.natCast_mul, ih, show ((n + 1 : Nat) : Int) = (n : Int) + 1 by omega, dq_add1]
    rfl
theorem pw_n {n0 i h p : Nat} (h0 : n0 ≤ 1000) (hi : i ≤ h) : (((n0 + 1) * 2 ^ i - 1 : Nat) : Rat) * dq 1 (-(p : Int)) ≤ dq 1 (10 + (h : Int) - (p : Int)):=by
 have h1 : (n0 + 1) * 2 ^ i - 1 ≤ 2 ^ (10 + h):=by
  have a1 : (n0 + 1) * 2 ^ i ≤ 1024 * 2 ^ h:=Nat.mul_le_mul (by omega) (Nat.pow_le_pow_right (by omega) hi)
  have e10 : (2 : Nat) ^ 10 = 1024:=by decide
  rw [Nat.pow_add, e10]
  omega
 have h2 : (((n0 + 1) * 2 ^ i - 1 : Nat) : Rat) ≤ (((2 : Nat) ^ (10 + h) : Nat) : Rat):=by exact_mod_cast h1
 rw [nat_dq] at h2
 have h3:=Rat.mul_le_mul_of_nonneg_right h2 (Rat.le_of_lt (dq_pos (-(p : Int))))
 rw [← dq_add1, show ((10 + h : Nat) : Int) + -(p : Int) = 10 + (h : Int) - (p : Int) by omega] at h3
 exact h3
theorem PwL.mid {m e : Int} {w h p dg i : Nat} (H : PwH m e w h p dg) (hi : i ≤ h) : UpE ((((2 : Nat) ^ i : Nat) : Rat) * dq m (e + -(h : Int))) (dq 1 (dg : Int)):=by
 have hq:=dq_hlv m e (h : Int)
 have hhp:=dq_pos (-(h : Int))
 have e1 : (((2 : Nat) ^ h : Nat) : Rat) * dq m (e + -(h : Int)) = dq m e:=by
  rw [hq, nat_dq]
  have:=dq_unit (h : Int)
  grind
 by_cases h0 : 0 ≤ dq m (e + -(h : Int))
 ·refine H.up.mono ?_
  rw [← e1]
  refine Rat.mul_le_mul_of_nonneg_right ?_ h0
  exact_mod_cast Nat.pow_le_pow_right (n:=2) (by omega) hi
 ·refine (exp_0.2.mono ?_).up (one_dg dg)
  have:=Rat.mul_nonneg (nat_nn (2 ^ i)) (show 0 ≤ -(dq m (e + -(h : Int))) by grind)
  grind
theorem PwL.size {m e : Int} {w h p dg i : Nat} {s : Int} (H : PwH m e w h p dg) (L : PwL m e h p i s) : AbP s (p + dg + 1):=by
 obtain ⟨hi, n0, h0, b⟩:=L
 have ep:=H.ep
 have hn:=pw_n (p:=p) h0 hi
 have hc : dq 1 (10 + (h : Int) - (p : Int)) ≤ dq 1 (-1):=dq_anti (by omega)
 have v1 : dq 1 (-1) = 1 / 2:=by decide +kernel
 obtain ⟨t1, t2⟩:=b.top (PwL.mid H hi) (one_dg dg) (by grind)
 have e2 : 2 * dq 1 (dg : Int) = dq (2 ^ (p + dg + 1)) (-(p : Int)):=by
  have : dq (2 ^ (p + dg + 1)) (-(p : Int)) = dq 1 ((dg : Int) + 1):=by
   refine dq_eq (F := -(p : Int)) ?_ (by omega) (by omega)
   rw [show (-(p : Int) - -(p : Int)).toNat = 0 by omega, show ((dg : Int) + 1 - -(p : Int)).toNat = p + dg + 1 by omega]
   simp
  rw [this, dq_add1]
  have v2 : dq 1 1 = 2:=rfl
  rw [v2]
  grind
 rw [e2] at t2
 have t3:=(dq_le_iff _ _ _).1 t2
 unfold AbP
 have eP : (((2 : Nat) ^ (p + dg + 1) : Nat) : Int) = 2 ^ (p + dg + 1):=by simp
 rw [← eP] at t3
 omega
theorem PwL.last {m e : Int} {w h p dg : Nat} {s : Int} (H : PwH m e w h p dg) (L : PwL m e h p h s) : 0 ≤ s ∧ LoE (dq s (-(p : Int)) - dq 1 (-((w : Int) + 20))) (dq m e) ∧ UpE (dq m e) (dq s (-(p : Int)) + dq 1 (-((w : Int) + 20))):=by
 obtain ⟨hi, n0, h0, b⟩:=L
 have ep:=H.ep
 have hn:=pw_n (p:=p) h0 hi
 have hc : dq 1 (10 + (h : Int) - (p : Int)) ≤ dq 1 (-1):=dq_anti (by omega)
 have v1 : dq 1 (-1) = 1 / 2:=by decide +kernel
 have hm:=PwL.mid H hi
 have hB:=one_dg dg
 obtain ⟨t1, _⟩:=b.top hm hB (by grind)
 have e1 : (((2 : Nat) ^ h : Nat) : Rat) * dq m (e + -(h : Int)) = dq m e:=by
  rw [dq_hlv m e (h : Int), nat_dq]
  have:=dq_unit (h : Int)
  grind
 have k1:=Rat.mul_le_mul_of_nonneg_right hn (Rat.le_of_lt (dq_pos (dg : Int)))
 rw [← dq_add1, show 10 + (h : Int) - (p : Int) + (dg : Int) = -((w : Int) + 20) + -2 by omega, dq_add1] at k1
 have v4 : dq 1 (-2) = 1 / 4:=by decide +kernel
 have hM1 : dq 1 (-((w : Int) + 20)) ≤ dq 1 0:=dq_anti (by omega)
 have v0 : dq 1 0 = 1:=by decide +kernel
 rw [v0] at hM1
 rw [v4] at k1
 have k2 : 4 * ((((n0 + 1) * 2 ^ h - 1 : Nat) : Rat) * dq 1 (-(p : Int)) * dq 1 (dg : Int)) ≤ dq 1 (-((w : Int) + 20)):=by
  clear H hi h0 b ep hn hc v1 hm hB t1 e1 v4 hM1 v0
  generalize (((n0 + 1) * 2 ^ h - 1 : Nat) : Rat) * dq 1 (-(p : Int)) * dq 1 (dg : Int) = Z at *
  generalize dq 1 (-((w : Int) + 20)) = M at *
  grind
 obtain ⟨r1, r2⟩:=b.last (M:=dq 1 (-((w : Int) + 20))) hm hB k2 hM1
 rw [e1] at r1 r2
 exact ⟨t1, r1, r2⟩
theorem pfar_up {m e : Int} {w : Nat} (h : dq m e ≤ -4096) (hw : w ≤ 4000) : UpE (dq m e) (dq 1 (-((w : Int) + 20))):=by
  have h1 : LoE 2 1:=by
    have:=exp_line 1
    rwa [show (1 : Rat) + 1 = 2 by grind] at this
  have h2:=(h1.rp (by grind) 4096).neg (rp_pos (by grind) 4096)
  have e : ∀ n : Nat, rp 2 n = dq 1 (n : Int):=fun n => by
    induction n with
    | zero => rfl
    | succ n ih =>
      rw [rp_succ, ih, show ((n + 1 : Nat) : Int) = (n : Int) + 1 by omega, dq_add1]
      rfl
  rw [e] at h2
  have hi : (dq 1 ((4096 : Nat) : Int))⁻¹ = dq 1 (-4096):=by
    have u:=dq_unit 4096
    have hp:=dq_pos 4096
    have : dq 1 ((4096 : Nat) : Int) = dq 1 4096:=rfl
    rw [this]
    have h3:=Rat.inv_mul_cancel (dq 1 4096) (by grind)
    grind
  rw [hi] at h2
  refine (h2.mono ?_).up (dq_anti (by omega))
  have : ((4096 : Nat) : Rat) * 1 = 4096:=by decide +kernel
  rw [this]
  exact h
theorem top_bd (m e : Int) : -dq 1 (topZ m e) ≤ dq m e ∧ dq m e ≤ dq 1 (topZ m e):=by
 unfold topZ
 by_cases h0 : m = 0
 ·subst h0
  rw [if_pos rfl, dq_zero]
  have:=dq_pos 0
  constructor <;> grind
 ·rw [if_neg h0]
  have hi:=lt_two_pow_blen m.natAbs
  obtain ⟨n, hn⟩ : ∃ n, blen m.natAbs = n:=⟨_, rfl⟩
  rw [hn] at hi ⊢
  have eP : dq ((2 ^ n : Nat) : Int) e = dq 1 ((n : Int) + e):=by
   rw [dq_scale, Rat.intCast_natCast, nat_dq, ← dq_add1]
  rw [← eP, ← dq_neg]
  exact ⟨(dq_le_iff _ _ _).2 (by omega), (dq_le_iff _ _ _).2 (by omega)⟩

theorem dq_nn {m : Int} (e : Int) (h : 0 ≤ m) : 0 ≤ dq m e:=by
 have:=(dq_le_iff 0 m e).2 h
 rwa [dq_zero] at this
theorem dq_shl (j : Nat) (m e : Int) : dq (m * 2 ^ j) e = dq m (e + (j : Int)):=dq_eq (F:=e) (by rw [show e - e = 0 by omega, show (e + (j : Int) - e).toNat = j by omega]; simp) (by omega) (by omega)
theorem dq_lt_iff (C D F : Int) : dq C F < dq D F ↔ C < D:=by
 rw [← Rat.not_le, dq_le_iff]
 omega
theorem dq1_mono {a b : Int} (h : a ≤ b) : dq 1 a ≤ dq 1 b:=by
 obtain ⟨j, rfl⟩ : ∃ j : Nat, b = a + (j : Int):=⟨(b - a).toNat, by omega⟩
 rw [← dq_shl, dq_le_iff]
 have:=pow2_pos j
 omega
theorem dq_shl1 (j : Nat) (e : Int) : dq ((2 ^ j : Nat) : Int) e = dq 1 (e + (j : Int)):=by
 rw [← dq_shl, Int.one_mul, cast2]
theorem top_iff {m e K : Int} (hK : 0 ≤ K) : topZ m e ≤ K ↔ -(dq 1 K) < dq m e ∧ dq m e < dq 1 K:=by
 unfold topZ
 by_cases h0 : m = 0
 ·subst h0
  rw [if_pos rfl, dq_zero]
  have hp:=dq_pos K
  refine ⟨fun _ => ⟨?_, hp⟩, fun _ => hK⟩
  have:=Rat.neg_lt_neg hp
  rwa [Rat.neg_zero] at this
 ·rw [if_neg h0]
  have hp : 0 < m.natAbs:=by omega
  have hb:=blen_pos hp
  have lo:=two_pow_blen_le hp
  have hi:=lt_two_pow_blen m.natAbs
  have e1 : dq ((2 ^ (blen m.natAbs - 1) : Nat) : Int) e ≤ dq (m.natAbs : Int) e:=(dq_le_iff _ _ _).2 (by omega)
  have e2 : dq (m.natAbs : Int) e < dq ((2 ^ blen m.natAbs : Nat) : Int) e:=(dq_lt_iff _ _ _).2 (by omega)
  rw [dq_shl1] at e1 e2
  have e3 : 0 ≤ dq (m.natAbs : Int) e:=dq_nn e (by omega)
  have key : (blen m.natAbs : Int) + e ≤ K ↔ dq (m.natAbs : Int) e < dq 1 K:=by
   constructor
   ·intro h
    exact rle_lt e2 (dq1_mono (by omega))
   ·intro h
    by_cases hc : (blen m.natAbs : Int) + e ≤ K
    ·exact hc
    ·have:=dq1_mono (a:=K) (b:=e + ((blen m.natAbs - 1 : Nat) : Int)) (by omega)
     exact absurd (Rat.le_trans this e1) (Rat.not_le.2 h)
  rw [key]
  have hn : -(dq 1 K) < 0:=by
   have:=Rat.neg_lt_neg (dq_pos K)
   rwa [Rat.neg_zero] at this
  rcases Int.lt_or_le m 0 with hm | hm
  ·rw [show m = -(m.natAbs : Int) from by omega, dq_neg, show (-(m.natAbs : Int)).natAbs = m.natAbs from by omega]
   constructor
   ·intro h
    refine ⟨Rat.neg_lt_neg h, rlt_le ?_ (dq_pos K)⟩
    have:=Rat.neg_le_neg e3
    rwa [Rat.neg_zero] at this
   ·rintro ⟨h, _⟩
    have:=Rat.neg_lt_neg h
    rwa [Rat.neg_neg, Rat.neg_neg] at this
  ·rw [show ((m.natAbs : Int)) = m from by omega] at e3 ⊢
   exact ⟨fun h => ⟨rle_lt hn e3, h⟩, fun h => h.2⟩
def clZ (m e : Int) : Int := -(cutQ (-(dq m e)) 0)
theorem clZ_up (m e : Int) : dq m e ≤ ((clZ m e : Int) : Rat):=by
 have h:=cut_lo (-(dq m e)) 0
 rw [Int.neg_zero, dq_int] at h
 unfold clZ
 rw [Rat.intCast_neg]
 generalize dq m e = q at *
 grind
theorem clZ_le {m e b : Int} (h : dq m e ≤ (b : Rat)) : clZ m e ≤ b:=by
 have h1:=cut_hi (-(dq m e)) 0
 rw [Int.neg_zero, dq_int, dq_int] at h1
 unfold clZ
 have h2 : ((-(b + 1) : Int) : Rat) < ((cutQ (-(dq m e)) 0 : Int) : Rat):=by
  rw [Rat.intCast_neg, Rat.intCast_add]
  generalize dq m e = q at *
  grind
 have:=Rat.intCast_lt_intCast.1 h2
 omega
theorem clZ_ge {m e b : Int} (h : (b : Rat) ≤ dq m e) : b ≤ clZ m e:=by
 have:=Rat.intCast_le_intCast.1 (Rat.le_trans h (clZ_up m e))
 exact this

set_option maxHeartbeats 8000000 in
theorem xdig_any (m e : Int) (vx : Value) (w : World) (hx : IsD w vx m e) (lm : zl m ≤ 100) (he : -10000 ≤ e ∧ e ≤ 10000) (hc1 : -100000 ≤ clZ m e) (hc2 : clZ m e ≤ 100000) (hT : Tab w) :
  Calls Tryz.prog 108 #[vx] w (RetI w (dgN (clZ m e) : Int)):=by
 obtain ⟨A, c, rfl, _, hn⟩:=hx.form
 have L0:=(Lq.mk0 w).n hn
 have g1:=fun x W h (hW : Below w.heap.size w W) => gceil_any m e 0 x W h (by omega) (by omega) (by omega) (by omega) (hT.mono hW)
 have hcl : -(cutQ (-(dq m e)) 0) = clZ m e:=rfl
 rw [hcl] at g1
 obtain ⟨C, hC⟩ : ∃ z, clZ m e = z:=⟨_, rfl⟩
 rw [hC] at g1 hc1 hc2 ⊢
 obtain ⟨e1, e2, e3⟩:=g_yes (p:=0) (by decide) C
 have hCb : AbP C 17:=by
  have e : (2 : Nat) ^ 17 = 131072:=by decide
  unfold AbP
  rw [e]
  omega
 rw [e1, e2, e3, Int.neg_zero, (nf hCb (by omega)).1] at g1
 have g2:=fun x W h => xwhole_any C x W h (by omega)
 obtain ⟨D, hD⟩ : ∃ D, dgN C = D:=⟨_, rfl⟩
 obtain ⟨q, hq⟩ : ∃ q, (3 * C + 1).tdiv 2 = q:=⟨_, rfl⟩
 have hq2 : q = (3 * C + 1) / 2 ∨ (3 * C + 1 < 0 ∧ q = (3 * C + 1) / 2 + 1):=by
  rw [Int.tdiv_eq_ediv] at hq
  split at hq
  ·left; omega
  ·rename_i h9
   right
   have h8 : ¬ 0 ≤ 3 * C + 1:=fun h => h9 (Or.inl h)
   rw [show Int.sign 2 = 1 from rfl] at hq
   omega
 have hqb : max q 0 = (D : Int):=by
  rw [← hD]
  unfold dgN
  split <;> omega
 have w1 : IntKind.i64.wrap (3 * C) = 3 * C:=by rw [IntKind.wrap_i64]; omega
 have w2 : IntKind.i64.wrap (3 * C + 1) = 3 * C + 1:=by rw [IntKind.wrap_i64]; omega
 have w3 : IntKind.i64.wrap q = q:=by rw [IntKind.wrap_i64]; omega
 rw [hD]
 generalize mkM C 0 = M at *
 generalize mkE C 0 = E at *
 have G1:=Lib.hid g1
 have G2:=Lib.hid g2
 clear g1 g2 hD hC hcl e1 e2 e3 hCb hc1 hc2 hT hx hn
 go_enter Tryz.func108, Tryz.ntmps108
 have L:=(L0.varD (w.heap.size) (by simp) (ng m) A (zl m) c e)
 have c00:=L.b0.c30
 have c01:=L.b0.c31
 have c02:=L.b0.c32
 (try go_wp2_with fail)
 refine (G1.out _ _ (isD_n (m:=m) (e:=e) (s:=.slice A (zl m) c) (L.getN (by simp))) L.below).mono ?_
 rintro e w1 ⟨v9, rfl, iz, be⟩
 clear c00 c01 c02
 obtain ⟨A1, c1, rfl, _, in9⟩:=iz.form
 replace L:=(L.step be).n in9
 clear be iz in9
 have hl9:=L.b0.lt
 replace L:=L.varD w1.heap.size rfl (ng M) A1 (zl M) c1 E
 have c00:=L.b0.c30
 have c01:=L.b0.c31
 have c02:=L.b0.c32
 go_wp2_with fail
 clear c00 c01 c02
 obtain ⟨g1, hg1⟩ : ∃ g9, w1.heap.size = g9:=⟨_, rfl⟩
 rw [hg1] at L hl9 ⊢
 clear hg1
 have hl_g1:=hl9
 clear hl9
 refine (G2.out _ _ (isD_n (m:=M) (e:=E) (s:=.slice A1 (zl M) c1) (L.getN (by simp)))).mono ?_
 rintro e w2 ⟨rfl, be⟩
 replace L:=L.step be
 clear be
 (try go_wp2_with fail)
 go_ret
 exact ⟨rfl, L.below⟩
def RetPw (w : World) (k : Nat) (m e : Int) (en : Ending) (w' : World) : Prop:=∃ (s : Int) (p : Nat), p ≤ 700 ∧ AbP s 1100 ∧ 0 ≤ s ∧ LoE (dq s (-(p : Int)) - dq 1 (-((k : Int) + 20))) (dq m e) ∧ UpE (dq m e) (dq s (-(p : Int)) + dq 1 (-((k : Int) + 20))) ∧ RetD8 w (mkM s (-(p : Int))) (mkE s (-(p : Int))) en w'
theorem RetPw.zero {w : World} {k : Nat} {m e : Int} {en : Ending} {w' : World} (h : dq m e < -4096) (hk : k ≤ 220) (r : RetD8 w 0 0 en w') : RetPw w k m e en w':=by
 have hu:=dq_pos (-((k : Int) + 20))
 refine ⟨0, 0, by omega, AbP.zero _, by omega, (LoE.zero _).down ?_, (pfar_up (Rat.le_of_lt h) (w:=k) (by omega)).up ?_, ?_⟩
 ·rw [dq_zero]
  generalize dq 1 (-((k : Int) + 20)) = u at *
  grind
 ·rw [dq_zero]
  generalize dq 1 (-((k : Int) + 20)) = u at *
  grind
 ·rw [show (-((0 : Nat) : Int)) = 0 from rfl, nf00.1, nf00.2]
  exact r
theorem sq_AbP {T X : Int} {p : Nat} (hX : X.natAbs * 2 ^ 32 ≤ 2 ^ p) (hT : AbP T p) (hp : 1 ≤ p) : AbP (T * X / 2 ^ p) p:=by
 have h:=(pwT_sz (T:=T) hX (Nat.le_refl 1)).1
 have e : pwT X p 1 T = T * X / 2 ^ p:=by
  unfold pwT
  rw [show ((1 : Nat) : Int) = 1 from rfl, Int.ediv_one]
 rw [e] at h
 unfold AbP at *
 have h2 : 2 ≤ 2 ^ p:=Nat.pow_le_pow_right (n:=2) (i:=1) (by omega) hp
 have h3:=Nat.div_mul_le_self T.natAbs 4294967296
 generalize T.natAbs / 4294967296 = q at *
 omega

set_option maxHeartbeats 16000000 in
theorem xpow_any (m e : Int) (k : Nat) (vx : Value) (w : World) (hx : IsD w vx m e) (lm : zl m ≤ 100) (he : -10000 ≤ e ∧ e ≤ 3000) (hv : Dv m e) (hhi : dq m e ≤ 200) (hk : k ≤ 220) (hT : Tab w) :
  Calls Tryz.prog 58 #[vx, .int .i64 (k : Int)] w (RetPw w k m e):=by
 obtain ⟨A, c, rfl, _, hn⟩:=hx.form
 have L0:=(Lq.mk0 w).n hn
 have HT:=Lib.hid (fun W (hW : Below w.heap.size w W) => hT.mono hW)
 have hb4 : AbP (-4096) 12:=by unfold AbP; decide
 obtain ⟨z1, z2, z3, z4, z5, z6⟩:=nf hb4 (by omega)
 rw [dq_int] at z6
 have g1:=fun W (hW : Below w.heap.size w W) => dof_any (-4096) W (by omega) (by omega) (hT.mono hW)
 have g2:=fun x y W h j => dcmp_any m e (mkM (-4096) 0) (mkE (-4096) 0) x y W h j (by omega) (by omega) (by omega) (by omega)
 have hlt:=dcm_lt m e (mkM (-4096) 0) (mkE (-4096) 0)
 rw [z6] at hlt
 rw [show cmpI (m * 2 ^ (e - min e (mkE (-4096) 0)).toNat) (mkM (-4096) 0 * 2 ^ (mkE (-4096) 0 - min e (mkE (-4096) 0)).toNat) = dcm m e (mkM (-4096) 0) (mkE (-4096) 0) from rfl] at g2
 generalize dcm m e (mkM (-4096) 0) (mkE (-4096) 0) = cm at *
 generalize mkM (-4096) 0 = Mb at *
 generalize mkE (-4096) 0 = Eb at *
 have G1:=Lib.hid g1
 have G2:=Lib.hid g2
 clear g1 g2 z1 z2 z3 z4 z5 z6 hb4 hx
 rcases Int.lt_or_le cm 0 with hcm | hcm
 ·have d1 : decide (cm < 0) = true:=decide_eq_true hcm
  have hfar:=hlt.1 hcm
  clear hlt
  go_enter Tryz.func58, Tryz.ntmps58
  have L:=((L0.varD (w.heap.size) (by simp) (ng m) A (zl m) c e).varD (w.heap.size + 1) (by simp) false none 0 0 0)
  (try go_wp2_with fail)
  replace L:=L.drew
  have c10:=L.tl.b0.c30
  have c11:=L.tl.b0.c31
  have c12:=L.tl.b0.c32
  go_region_held3 (fun w' => w'.cell? ⟨w.heap.size, 0, none⟩ = some (.bool (ng m)) ∧ w'.cell? ⟨w.heap.size, 1, none⟩ = some (.slice A (zl m) c) ∧ w'.cell? ⟨w.heap.size, 2, none⟩ = some (.int .i64 e)) (first | (with_reducible exact ⟨L.tl.b0.c30, L.tl.b0.c31, L.tl.b0.c32⟩) | exact ⟨L.tl.b0.c30, L.tl.b0.c31, L.tl.b0.c32⟩) (first | (go_at_call 57; (with_reducible refine (G1.out _ ?_ ).mono ?_); (· exact L.below); rintro e wh ⟨vh, rfl, id, be⟩; obtain ⟨A1, c1, rfl, _, in9⟩:=id.form; replace L:=(L.step be).n in9; clear be id in9) | (go_at_call 56; (with_reducible refine (G2.out _ _ _ ?_ ?_ ).mono ?_); (· (refine isD_n (L.getN ?_); (repeat (first | (with_reducible exact List.mem_cons_self) | apply List.mem_cons_of_mem)))); (· (refine isD_n (L.getN ?_); (repeat (first | (with_reducible exact List.mem_cons_self) | apply List.mem_cons_of_mem)))); rintro e wh ⟨rfl, be⟩; replace L:=L.step be; clear be))
  clear c10 c11 c12
  have c00:=L.b0.c30
  have f00:=L.b0.fr 0
  have c01:=L.b0.c31
  have f01:=L.b0.fr 1
  have c02:=L.b0.c32
  have f02:=L.b0.fr 2
  go_wp2_with fail
  clear c00 f00 c01 f01 c02 f02
  have LP:=L.putD (by omega) (by first | (simp; done) | (simp; omega)) (false) none (0) 0 (0)
  have k0:=LP.b0.c30
  have k1:=LP.b0.c31
  have k2:=LP.b0.c32
  unfold put3 at k0 k1 k2
  exact bodyPost_ret (v:=.agg #[.bool (false), .slice none (0) 0, .int .i64 (0)]) (by simp [results, Tryz.results58, go_sem, k0, k1, k2]) rfl (RetPw.zero hfar hk ⟨_, rfl, ⟨.slice none 0 0, by simp [ng], IsN.zero _⟩, LP.below⟩)
 ·have d1 : decide (cm < 0) = false:=decide_eq_false (by omega)
  have hnear : -4096 ≤ dq m e:=by
   refine Rat.not_lt.1 fun hl => ?_
   have:=hlt.2 hl
   omega
  clear hlt hcm
  have hen : ∀ args w, (callFunc 111 args).run Tryz.prog w = .ok (.enter 111 args) w:=enters_of Tryz.func111 (by kernel_rfl) rfl
  obtain ⟨tp1, tp2⟩:=top_bd m e
  have htl : topZ m e ≤ 13:=by
   by_cases h0 : m = 0
   ·subst h0; unfold topZ; rw [if_pos rfl]; omega
   ·refine (top_iff (K:=13) (by omega)).2 ⟨?_, ?_⟩
    ·have v : dq 1 13 = 8192:=by decide +kernel
     rw [v]
     clear tp1 tp2 hhi
     generalize dq m e = q at *
     grind
    ·have v : dq 1 13 = 8192:=by decide +kernel
     rw [v]
     clear tp1 tp2 hnear
     generalize dq m e = q at *
     grind
  have htl2 : -20000 ≤ topZ m e:=by unfold topZ; split <;> omega
  obtain ⟨h, hh⟩ : ∃ h : Nat, max (topZ m e + 64) 0 = (h : Int):=⟨(max (topZ m e + 64) 0).toNat, by omega⟩
  have hcl : clZ m e ≤ 200:=clZ_le (by exact_mod_cast hhi)
  have hcl2 : -4096 ≤ clZ m e:=clZ_ge (by exact_mod_cast hnear)
  have g3:=fun x W h (hW : Below w.heap.size w W) => xdig_any m e x W h lm (by omega) (by omega) (by omega) (HT.out W hW)
  obtain ⟨dg, hdg⟩ : ∃ dg, dgN (clZ m e) = dg:=⟨_, rfl⟩
  have hdgb : dg ≤ 301:=by rw [← hdg]; unfold dgN; split <;> omega
  have hupd:=dg_up (clZ_up m e)
  rw [hdg] at g3 hupd
  obtain ⟨p, hp⟩ : ∃ p, k + 32 + h + dg = p:=⟨_, rfl⟩
  have hpb : p ≤ 700:=by omega
  have H : PwH m e k h p dg:=by
   refine ⟨hp.symm, hupd, ?_, ?_, hpb⟩
   ·exact Rat.le_trans (Rat.neg_le_neg (dq_anti (by omega))) tp1
   ·exact Rat.le_trans tp2 (dq_anti (by omega))
  have g4:=fun x W h => dtop_any m e x W h (by omega) (by omega) (dv_zero hv)
  have g5:=fun x W hx (hW : Below w.heap.size w W) => dshift_any m e (-(h : Int)) x W hx (by omega) (by omega) (by omega) (HT.out W hW)
  have hr5 : mkR m (e + -(h : Int)) = 0:=mk_fits2 (by omega) (by omega) (by omega)
  rw [hr5] at g5
  have hz5:=zl_mk m (e + -(h : Int))
  have he5:=mkE_at hr5 (k:=100) (by omega)
  have hd5:=dq_mk hr5
  have g6:=fun x W hx (hW : Below w.heap.size w W) => gnear_any (mkM m (e + -(h : Int))) (mkE m (e + -(h : Int))) (p : Int) x W hx (by omega) (by omega) (by omega) (by omega) (HT.out W hW)
  have hpm : permB (p : Int) = true:=by
   unfold permB
   rw [decide_eq_true (show (-2048 : Int) ≤ (p : Int) by omega), decide_eq_true (show (p : Int) ≤ 8192 by omega)]
   rfl
  rw [hd5, show (cutQ (dq m (e + -(h : Int))) ((p : Int) + 1) + 1) / 2 = nrX m e h p from rfl] at g6
  obtain ⟨gy1, gy2, gy3⟩:=g_yes hpm (nrX m e h p)
  obtain ⟨x1, x2, x3, x4, x5⟩:=H.arg
  have hXp : AbP (nrX m e h p) p:=by
   unfold AbP
   have : (nrX m e h p).natAbs * 1 ≤ (nrX m e h p).natAbs * 2 ^ 32:=Nat.mul_le_mul_left _ (by decide)
   omega
  obtain ⟨nx1, nx2, nx3, nx4, nx5⟩:=np hXp (by omega) (show p ≤ 3000 by omega)
  rw [gy1, gy2, gy3, nx1] at g6
  have g7:=fun (A : Option Addr) (c : Nat) (W : World) (hW : Below w.heap.size w W) (hx : IsN W (.slice A (zl (mkM (nrX m e h p) (-(p : Int)))) c) (mkM (nrX m e h p) (-(p : Int))).natAbs) => xsum_any 111 hen (nrX m e h p) p (.agg #[.bool (ng (mkM (nrX m e h p) (-(p : Int)))), .slice A (zl (mkM (nrX m e h p) (-(p : Int)))) c, .int .i64 (mkE (nrX m e h p) (-(p : Int))), .int .i64 (p : Int)]) W x1 hpb (HT.out W hW) (fun k T vt W2 ht hTa hk1 hk2 hW2 => xnext_any (nrX m e h p) T p k A c vt W2 (hx.mono hW2) ht hXp hTa (sq_AbP x1 hTa (by omega)) hpb hk1 (by omega) ((HT.out W hW).mono hW2))
  clear gy1 gy2 gy3 nx1 nx2 nx3 nx4 nx5 hd5 he5 hz5 hr5 hcl hcl2 hupd hhi hnear tp1 tp2 x1 x2 x3 x4 x5 hXp hpm
  obtain ⟨Tz, hTz⟩ : ∃ z, topZ m e = z:=⟨_, rfl⟩
  rw [hTz] at g4 hh htl htl2
  have hhb : h ≤ 77:=by omega
  have w1 : IntKind.i64.wrap (Tz + 64) = Tz + 64:=by rw [IntKind.wrap_i64]; omega
  have w2 : IntKind.i64.wrap ((k : Int) + 32) = (k : Int) + 32:=by rw [IntKind.wrap_i64]; omega
  have w3 : IntKind.i64.wrap ((k : Int) + 32 + (h : Int)) = (k : Int) + 32 + (h : Int):=by rw [IntKind.wrap_i64]; omega
  have w4 : IntKind.i64.wrap ((k : Int) + 32 + (h : Int) + (dg : Int)) = (p : Int):=by rw [IntKind.wrap_i64]; omega
  have w5 : IntKind.i64.wrap (-(h : Int)) = -(h : Int):=by rw [IntKind.wrap_i64]; omega
  have HH:=Lib.hid H
  have HP:=Lib.hid (And.intro hpb (And.intro hhb hdgb))
  clear H hTz hdg hp hpb hdgb htl htl2 hhb
  obtain ⟨X, hX⟩ : ∃ z, nrX m e h p = z:=⟨_, rfl⟩
  rw [hX] at g6 g7
  have HX:=Lib.hid hX
  clear hX
  generalize mkM X (-(p : Int)) = Mx at *
  generalize mkE X (-(p : Int)) = Ex at *
  generalize mkM m (e + -(h : Int)) = M1 at *
  generalize mkE m (e + -(h : Int)) = E1 at *
  have G3:=Lib.hid g3
  have G4:=Lib.hid g4
  have G5:=Lib.hid g5
  have G6:=Lib.hid g6
  have G7:=Lib.hid g7
  clear g3 g4 g5 g6 g7 hv lm he
  go_enter Tryz.func58, Tryz.ntmps58
  have L:=((L0.varD (w.heap.size) (by simp) (ng m) A (zl m) c e).varD (w.heap.size + 1) (by simp) false none 0 0 0)
  (try go_wp2_with fail)
  replace L:=L.drew
  have c10:=L.tl.b0.c30
  have c11:=L.tl.b0.c31
  have c12:=L.tl.b0.c32
  go_region_held3 (fun w' => w'.cell? ⟨w.heap.size, 0, none⟩ = some (.bool (ng m)) ∧ w'.cell? ⟨w.heap.size, 1, none⟩ = some (.slice A (zl m) c) ∧ w'.cell? ⟨w.heap.size, 2, none⟩ = some (.int .i64 e)) (first | (with_reducible exact ⟨L.tl.b0.c30, L.tl.b0.c31, L.tl.b0.c32⟩) | exact ⟨L.tl.b0.c30, L.tl.b0.c31, L.tl.b0.c32⟩) (first | (go_at_call 57; (with_reducible refine (G1.out _ ?_ ).mono ?_); (· exact L.below); rintro e wh ⟨vh, rfl, id, be⟩; obtain ⟨A1, c1, rfl, _, in9⟩:=id.form; replace L:=(L.step be).n in9; clear be id in9) | (go_at_call 56; (with_reducible refine (G2.out _ _ _ ?_ ?_ ).mono ?_); (· (refine isD_n (L.getN ?_); (repeat (first | (with_reducible exact List.mem_cons_self) | apply List.mem_cons_of_mem)))); (· (refine isD_n (L.getN ?_); (repeat (first | (with_reducible exact List.mem_cons_self) | apply List.mem_cons_of_mem)))); rintro e wh ⟨rfl, be⟩; replace L:=L.step be; clear be))
  clear c10 c11 c12
  have c10:=L.tl.b0.c30
  have c11:=L.tl.b0.c31
  have c12:=L.tl.b0.c32
  (try go_wp2_with fail)
  refine (G4.out _ _ (isD_n (m:=m) (e:=e) (s:=.slice A (zl m) c) (L.getN (by simp)))).mono ?_
  rintro e w1 ⟨rfl, be⟩
  clear c10 c11 c12
  replace L:=L.step be
  clear be
  have c10:=L.tl.b0.c30
  have c11:=L.tl.b0.c31
  have c12:=L.tl.b0.c32
  (try go_wp2_with fail)
  refine (G3.out _ _ (isD_n (m:=m) (e:=e) (s:=.slice A (zl m) c) (L.getN (by simp))) L.below).mono ?_
  rintro e w2 ⟨rfl, be⟩
  clear c10 c11 c12
  replace L:=L.step be
  clear be
  have c10:=L.tl.b0.c30
  have c11:=L.tl.b0.c31
  have c12:=L.tl.b0.c32
  (try go_wp2_with fail)
  refine (G5.out _ _ (isD_n (m:=m) (e:=e) (s:=.slice A (zl m) c) (L.getN (by simp))) L.below).mono ?_
  rintro e w3 ⟨v9, rfl, iz, be⟩
  clear c10 c11 c12
  obtain ⟨A2, c2, rfl, _, in9⟩:=iz.form
  replace L:=(L.step be).n in9
  clear be iz in9
  have hl9:=L.b0.lt
  replace L:=L.varD w3.heap.size rfl (ng M1) A2 (zl M1) c2 E1
  have c00:=L.b0.c30
  have c01:=L.b0.c31
  have c02:=L.b0.c32
  go_wp2_with fail
  clear c00 c01 c02
  obtain ⟨g1, hg1⟩ : ∃ g9, w3.heap.size = g9:=⟨_, rfl⟩
  rw [hg1] at L hl9 ⊢
  clear hg1
  have hl_g1:=hl9
  clear hl9
  refine (G6.out _ _ (isD_n (m:=M1) (e:=E1) (s:=.slice A2 (zl M1) c2) (L.getN (by simp))) L.below).mono ?_
  rintro e w4 ⟨v9, rfl, iz, be⟩
  obtain ⟨A3, c3, rfl, _, in9⟩:=iz.form
  replace L:=(L.step be).n in9
  clear be iz in9
  have c00:=L.b0.c30
  have f00:=L.b0.fr 0
  have c01:=L.b0.c31
  have f01:=L.b0.fr 1
  have c02:=L.b0.c32
  have f02:=L.b0.fr 2
  have P:=L.putD (by omega) (by simp; omega) (ng Mx) A3 (zl Mx) c3 Ex
  have p0:=P.b0.c30
  have p1:=P.b0.c31
  have p2:=P.b0.c32
  unfold put3 at p0 p1 p2 P
  go_wp2_with fail
  replace L:=P
  clear P p0 p1 p2
  clear c00 f00 c01 f01 c02 f02
  refine (G7.out A3 c3 _ L.below (L.getN (by simp))).mono ?_
  rintro e w5 ⟨S, kk, hR, v9, rfl, iz, be⟩
  obtain ⟨A4, c4, rfl, _, in9⟩:=iz.form
  replace L:=(L.step be).n in9
  clear be iz in9
  have hl9:=L.b0.lt
  rw [← HX.out] at hR
  have HL0:=PwL.first HH.out hR
  obtain ⟨Ms, hMs⟩ : ∃ z, mkM S (-(p : Int)) = z:=⟨_, rfl⟩
  obtain ⟨Es, hEs⟩ : ∃ z, mkE S (-(p : Int)) = z:=⟨_, rfl⟩
  rw [hMs] at L ⊢
  rw [hEs]
  have HL:=Lib.hid (And.intro HL0 (And.intro hMs hEs))
  clear HL0 hMs hEs hR HX G1 G2 G3 G4 G5 G6 G7
  replace L:=L.varD w5.heap.size rfl (ng Ms) A4 (zl Ms) c4 Es
  have c00:=L.b0.c30
  have c01:=L.b0.c31
  have c02:=L.b0.c32
  go_wp2_with fail
  clear c00 c01 c02
  obtain ⟨g2, hg2⟩ : ∃ g9, w5.heap.size = g9:=⟨_, rfl⟩
  rw [hg2] at L hl9 ⊢
  clear hg2
  have hl_g2:=hl9
  clear hl9
  go_loopw [45] (fun i wr => ∃ (j : Nat) (s Ms Es : Int) (A4 : Option Addr) (c4 : Nat), i = .int .i64 (j : Int) ∧ Lq w wr [(.slice A4 (zl Ms) c4, Ms.natAbs)] [] [] [(g2, 26, #[.bool (ng Ms), .slice A4 (zl Ms) c4, .int .i64 Es]), (w.heap.size + 1, 26, #[.bool false, .slice none 0 0, .int .i64 0])] ∧ Hid (PwL m e h p j s ∧ mkM s (-(p : Int)) = Ms ∧ mkE s (-(p : Int)) = Es)) (fun i _ => 100 - (intOf i).toNat)
  case atStart => exact ⟨0, S, Ms, Es, A4, c4, by go_num, L.subx (by simp) (by simp), HL⟩
  case round =>
   clear L HL
   obtain ⟨j, s, Ms, Es, A4, c4, rfl, L, HL⟩:=hrel
   obtain ⟨hI, hM, hE⟩:=HL.out
   obtain ⟨hpb, hhb, hdgb⟩:=HP.out
   have hjh:=hI.1
   have hsz:=hI.size HH.out
   have hl0:=L.b0.lt
   rcases Nat.eq_or_lt_of_le hjh with rfl | hj3
   ·have hlt : ¬ (j : Int) < (j : Int):=by omega
    obtain ⟨r1, r2, r3⟩:=hI.last HH.out
    clear HL hI
    replace L:=L.swap
    have cel00:=L.b0.c30
    have f00:=L.b0.fr 0
    have cel01:=L.b0.c31
    have f01:=L.b0.fr 1
    have cel02:=L.b0.c32
    have f02:=L.b0.fr 2
    have cel10:=L.tl.b0.c30
    have cel11:=L.tl.b0.c31
    have cel12:=L.tl.b0.c32
    go_wp2_with fail
    clear cel00 f00 cel01 f01 cel02 f02 cel10 cel11 cel12
    subst hM hE
    have LP:=L.putD (by omega) (by first | (simp; done) | (simp; omega)) (ng (mkM s (-(p : Int)))) A4 (zl (mkM s (-(p : Int)))) c4 (mkE s (-(p : Int)))
    have k0:=LP.b0.c30
    have k1:=LP.b0.c31
    have k2:=LP.b0.c32
    unfold put3 at k0 k1 k2
    exact bodyPost_ret (v:=.agg #[.bool (ng (mkM s (-(p : Int)))), .slice A4 (zl (mkM s (-(p : Int)))) c4, .int .i64 (mkE s (-(p : Int)))]) (by simp [results, Tryz.results58, go_sem, k0, k1, k2]) rfl ⟨s, p, hpb, hsz.up (by omega), r1, r2, r3, _, rfl, isD_n (LP.getN (by simp)), LP.below⟩
   ·have hlt : (j : Int) < (h : Int):=by omega
    have hI2:=hI.step hj3
    obtain ⟨M4, hM4⟩ : ∃ z, mkM (mkM s (-(p : Int)) * mkM s (-(p : Int))) (mkE s (-(p : Int)) + mkE s (-(p : Int))) = z:=⟨_, rfl⟩
    obtain ⟨E4, hE4⟩ : ∃ z, mkE (mkM s (-(p : Int)) * mkM s (-(p : Int))) (mkE s (-(p : Int)) + mkE s (-(p : Int))) = z:=⟨_, rfl⟩
    obtain ⟨a1, a2, a3, a4, a5⟩:=np hsz (by omega) (show p ≤ 3000 by omega)
    obtain ⟨m1, m2, m3, m4, m5, m6⟩:=np_mul hsz hsz (by omega) (by omega) (show p ≤ 1400 by omega) M4 E4 hM4 hE4
    have g8:=fun x y W h j (hW : Below w.heap.size w W) => dmul_any (mkM s (-(p : Int))) (mkE s (-(p : Int))) (mkM s (-(p : Int))) (mkE s (-(p : Int))) x y W h j (by omega) (by omega) (by omega) (by omega) (HT.out W hW)
    rw [hM4, hE4, m1, hM, hE] at g8
    have g9:=fun x W h (hW : Below w.heap.size w W) => gfloor_any M4 E4 (p : Int) x W h (by omega) (by omega) (by omega) (by omega) (HT.out W hW)
    rw [m4, m5, m6] at g9
    obtain ⟨s2, hs2⟩ : ∃ z, s * s / 2 ^ p = z:=⟨_, rfl⟩
    rw [hs2] at g9 hI2
    obtain ⟨M2, hM2⟩ : ∃ z, mkM s2 (-(p : Int)) = z:=⟨_, rfl⟩
    obtain ⟨E2, hE2⟩ : ∃ z, mkE s2 (-(p : Int)) = z:=⟨_, rfl⟩
    rw [hM2, hE2] at g9
    have G8:=Lib.hid g8
    have G9:=Lib.hid g9
    have HQ:=Lib.hid (And.intro hI2 (And.intro hM2 hE2))
    have w9 : IntKind.i64.wrap ((j : Int) + 1) = (j : Int) + 1:=by rw [IntKind.wrap_i64]; omega
    clear g8 g9 a1 a2 a3 a4 a5 m1 m2 m3 m4 m5 m6 hM hE hM2 hE2 hs2 hI2 hM4 hE4 hI HL hsz
    have cel00:=L.b0.c30
    have f00:=L.b0.fr 0
    have cel01:=L.b0.c31
    have f01:=L.b0.fr 1
    have cel02:=L.b0.c32
    have f02:=L.b0.fr 2
    go_wp2_with fail
    refine (G8.out _ _ _ (isD_n (m:=Ms) (e:=Es) (s:=.slice A4 (zl Ms) c4) (L.getN (by simp))) (isD_n (m:=Ms) (e:=Es) (s:=.slice A4 (zl Ms) c4) (L.getN (by simp))) L.below).mono ?_
    rintro e w31 ⟨v9, rfl, iz, be⟩
    clear cel00 f00 cel01 f01 cel02 f02
    obtain ⟨A5, c5, rfl, _, in9⟩:=iz.form
    replace L:=(L.step be).n in9
    clear be iz in9
    have cel00:=L.b0.c30
    have f00:=L.b0.fr 0
    have cel01:=L.b0.c31
    have f01:=L.b0.fr 1
    have cel02:=L.b0.c32
    have f02:=L.b0.fr 2
    have P:=L.putD (by omega) (by simp; omega) (ng M4) A5 (zl M4) c5 E4
    have p0:=P.b0.c30
    have p1:=P.b0.c31
    have p2:=P.b0.c32
    unfold put3 at p0 p1 p2 P
    go_wp2_with fail
    replace L:=P
    clear P p0 p1 p2
    clear cel00 f00 cel01 f01 cel02 f02
    refine (G9.out _ _ (isD_n (m:=M4) (e:=E4) (s:=.slice A5 (zl M4) c5) (L.getN (by simp))) L.below).mono ?_
    rintro e w32 ⟨v9, rfl, iz, be⟩
    obtain ⟨A6, c6, rfl, _, in9⟩:=iz.form
    replace L:=(L.step be).n in9
    clear be iz in9
    have cel00:=L.b0.c30
    have f00:=L.b0.fr 0
    have cel01:=L.b0.c31
    have f01:=L.b0.fr 1
    have cel02:=L.b0.c32
    have f02:=L.b0.fr 2
    have P:=L.putD (by omega) (by simp; omega) (ng M2) A6 (zl M2) c6 E2
    unfold put3 at P
    go_wp2_with fail
    go_roundw
    case rel => exact ⟨j + 1, s2, M2, E2, A6, c6, by go_num, P.subx (by simp) (by simp), HQ⟩
    case measure => simp [intOf]; omega
def RetEp (w : World) (k : Nat) (m e n f : Int) (en : Ending) (w' : World) : Prop:=∃ a b : Int, (0 ≤ a ∧ AbP a (k + 302) ∧ LoE (dq a (-(k : Int))) (dq m e) ∧ UpE (dq m e) (dq a (-(k : Int)) + 2 * dq 1 (-(k : Int)))) ∧
 (AbP b (k + 302) ∧ LoE (dq b (-(k : Int)) - 2 * dq 1 (-(k : Int))) (dq n f) ∧ UpE (dq n f) (dq b (-(k : Int)))) ∧ RetIE w (mkM a (-(k : Int))) (mkE a (-(k : Int))) (mkM b (-(k : Int))) (mkE b (-(k : Int))) 0 en w'
theorem twoM (k : Nat) : 2 * dq 1 (-((k : Int) + 20)) ≤ dq 1 (-(k : Int)):=by
 have h:=dq_anti (a := -((k : Int) + 20)) (b := -(k : Int) + -1) (by omega)
 rw [dq_add1] at h
 have v : dq 1 (-1) = 1 / 2:=by decide +kernel
 rw [v] at h
 generalize dq 1 (-((k : Int) + 20)) = M at *
 generalize dq 1 (-(k : Int)) = u at *
 grind
theorem up200 {x : Rat} (h : x ≤ 200) : UpE x (dq 1 300):=by
 have h2 : x ≤ ((200 : Int) : Rat):=h
 have:=dg_up h2
 exact this
theorem unit_up (k j : Nat) : dq 1 (j : Int) = dq (2 ^ (k + j)) (-(k : Int)):=by
 refine dq_eq (F := -(k : Int)) ?_ (by omega) (by omega)
 rw [show ((j : Int) - -(k : Int)).toNat = k + j by omega, show (-(k : Int) - -(k : Int)).toNat = 0 by omega]
 simp
theorem ep_lo {k : Nat} {q x Q : Rat} (h1 : LoE (q - dq 1 (-((k : Int) + 20))) x) (h2 : UpE x (q + dq 1 (-((k : Int) + 20)))) (hx : x ≤ 200) (hQ : (Q = 0 ∧ q - dq 1 (-((k : Int) + 20)) < 0) ∨ (Q = q - dq 1 (-((k : Int) + 20)) ∧ 0 ≤ Q)) :
  0 ≤ cutQ Q (k : Int) ∧ AbP (cutQ Q (k : Int)) (k + 302) ∧ LoE (dq (cutQ Q (k : Int)) (-(k : Int))) x ∧ UpE x (dq (cutQ Q (k : Int)) (-(k : Int)) + 2 * dq 1 (-(k : Int))):=by
 have hM:=dq_pos (-((k : Int) + 20))
 have h2M:=twoM k
 have c1:=cut_lo Q (k : Int)
 have c2:=cut_hi Q (k : Int)
 have hB:=up200 hx
 have l0 : LoE Q x:=by
  rcases hQ with ⟨e, _⟩ | ⟨e, _⟩
  ·rw [e]; exact LoE.zero x
  ·rw [e]; exact h1
 have hQ0 : 0 ≤ Q:=by
  rcases hQ with ⟨e, _⟩ | ⟨_, e⟩
  ·rw [e]; exact Rat.le_refl
  ·exact e
 have u0 : UpE x (Q + 2 * dq 1 (-((k : Int) + 20))):=by
  refine h2.up ?_
  generalize dq 1 (-((k : Int) + 20)) = M at *
  clear h1 h2 hB c1 c2 l0
  rcases hQ with ⟨e, e2⟩ | ⟨e, e2⟩ <;> grind
 have hl:=l0.down c1
 have a0 : 0 ≤ cutQ Q (k : Int):=by
  unfold cutQ
  refine Rat.le_floor_iff.2 ?_
  exact Rat.mul_nonneg hQ0 (Rat.le_of_lt (dq_pos _))
 refine ⟨a0, ?_, hl, u0.up ?_⟩
 ·have h3:=hl.le hB
  rw [show (300 : Int) = ((300 : Nat) : Int) from rfl, unit_up k 300] at h3
  have h4:=(dq_le_iff _ _ _).1 h3
  have eP : (((2 : Nat) ^ (k + 300) : Nat) : Int) = 2 ^ (k + 300):=by simp
  rw [← eP] at h4
  have h5:=Nat.pow_le_pow_right (n:=2) (by omega) (show k + 300 ≤ k + 302 by omega)
  unfold AbP
  omega
 ·generalize dq 1 (-((k : Int) + 20)) = M at *
  generalize dq 1 (-(k : Int)) = u at *
  generalize dq (cutQ Q (k : Int)) (-(k : Int)) = A at *
  clear h1 h2 hB c1 l0 hl u0 hQ
  grind
theorem ep_hi {k : Nat} {q x : Rat} (h1 : LoE (q - dq 1 (-((k : Int) + 20))) x) (h2 : UpE x (q + dq 1 (-((k : Int) + 20)))) (hx : x ≤ 200) :
  AbP (-(cutQ (-(q + dq 1 (-((k : Int) + 20)))) (k : Int))) (k + 302) ∧ LoE (dq (-(cutQ (-(q + dq 1 (-((k : Int) + 20)))) (k : Int))) (-(k : Int)) - 2 * dq 1 (-(k : Int))) x ∧ UpE x (dq (-(cutQ (-(q + dq 1 (-((k : Int) + 20)))) (k : Int))) (-(k : Int))):=by
 have hM:=dq_pos (-((k : Int) + 20))
 have h2M:=twoM k
 have c1:=cut_lo (-(q + dq 1 (-((k : Int) + 20)))) (k : Int)
 have c2:=cut_hi (-(q + dq 1 (-((k : Int) + 20)))) (k : Int)
 have hB:=up200 hx
 obtain ⟨b, hb⟩ : ∃ b, -(cutQ (-(q + dq 1 (-((k : Int) + 20)))) (k : Int)) = b:=⟨_, rfl⟩
 rw [show cutQ (-(q + dq 1 (-((k : Int) + 20)))) (k : Int) = -b by omega, dq_neg] at c1 c2
 rw [hb]
 have hu : UpE x (dq b (-(k : Int))):=by
  refine h2.up ?_
  generalize dq 1 (-((k : Int) + 20)) = M at *
  generalize dq b (-(k : Int)) = B at *
  clear h1 h2 hB c2
  grind
 have hl : LoE (dq b (-(k : Int)) - 2 * dq 1 (-(k : Int))) x:=by
  refine h1.down ?_
  generalize dq 1 (-((k : Int) + 20)) = M at *
  generalize dq b (-(k : Int)) = B at *
  generalize dq 1 (-(k : Int)) = u at *
  clear h1 h2 hB c1 hu
  grind
 refine ⟨?_, hl, hu⟩
 have h3:=hl.le hB
 rw [show (300 : Int) = ((300 : Nat) : Int) from rfl, unit_up k 300] at h3
 have e2 : dq b (-(k : Int)) - 2 * dq 1 (-(k : Int)) = dq (b - 2) (-(k : Int)):=by
  rw [dq_scale b, dq_scale (b - 2), Rat.intCast_sub, show ((2 : Int) : Rat) = 2 from rfl]
  generalize dq 1 (-(k : Int)) = u at *
  grind
 rw [e2] at h3
 have h4:=(dq_le_iff _ _ _).1 h3
 have eP : (((2 : Nat) ^ (k + 300) : Nat) : Int) = 2 ^ (k + 300):=by simp
 rw [← eP] at h4
 have h5 : 2 ^ (k + 302) = 2 ^ (k + 300) * 4:=by rw [show k + 302 = k + 300 + 2 by omega, Nat.pow_add]
 have h6:=Nat.pow_pos (n:=k + 300) (show 0 < 2 by omega)
 have h7:=hu.pos
 have h8 : 0 < b:=by
  refine Int.not_le.1 fun hle => ?_
  have:=(dq_le_iff b 0 (-(k : Int))).2 hle
  rw [dq_zero] at this
  exact absurd h7 (Rat.not_lt.2 this)
 unfold AbP
 omega
theorem ep_sum {s : Int} {p j : Nat} (t : Int) (h : AbP s 1100) (hp : p ≤ 700) (hj : j ≤ 300) (ht : t = 1 ∨ t = -1) (M E : Int)
  (hM : mkM (addS (mkM s (-(p : Int))) (mkE s (-(p : Int))) (t * mkM 1 (-(j : Int))) (mkE 1 (-(j : Int)))) (min (mkE s (-(p : Int))) (mkE 1 (-(j : Int)))) = M)
  (hE : mkE (addS (mkM s (-(p : Int))) (mkE s (-(p : Int))) (t * mkM 1 (-(j : Int))) (mkE 1 (-(j : Int)))) (min (mkE s (-(p : Int))) (mkE 1 (-(j : Int)))) = E) :
  mkR (addS (mkM s (-(p : Int))) (mkE s (-(p : Int))) (t * mkM 1 (-(j : Int))) (mkE 1 (-(j : Int)))) (min (mkE s (-(p : Int))) (mkE 1 (-(j : Int)))) = 0 ∧ dq M E = dq s (-(p : Int)) + (t : Rat) * dq 1 (-(j : Int)) ∧ zl M ≤ 400 ∧ (-15000 ≤ E ∧ E ≤ 15000) ∧ Dv M E:=by
 obtain ⟨a1, a2, a3, a4, a5⟩:=np h (by omega) (show p ≤ 3000 by omega)
 obtain ⟨b1, b2, b3, b4, b5⟩:=np (T:=1) (j:=0) (by unfold AbP; decide) (by omega) (show j ≤ 3000 by omega)
 have hz1 : zl (t * mkM 1 (-(j : Int))) = zl (mkM 1 (-(j : Int))):=by
  rcases ht with rfl | rfl
  ·rw [Int.one_mul]
  ·rw [Int.neg_mul, Int.one_mul]; exact zl_neg _
 have hz:=zl_addS (mkM s (-(p : Int))) (mkE s (-(p : Int))) (t * mkM 1 (-(j : Int))) (mkE 1 (-(j : Int))) 3000 (by omega) (by omega)
 rw [hz1] at hz
 have hr : mkR (addS (mkM s (-(p : Int))) (mkE s (-(p : Int))) (t * mkM 1 (-(j : Int))) (mkE 1 (-(j : Int)))) (min (mkE s (-(p : Int))) (mkE 1 (-(j : Int)))) = 0:=mk_fits9 (by omega) (by omega) (by omega)
 have hd:=dq_mk hr
 have hv:=mk_ok hr
 have hz2:=zl_mk (addS (mkM s (-(p : Int))) (mkE s (-(p : Int))) (t * mkM 1 (-(j : Int))) (mkE 1 (-(j : Int)))) (min (mkE s (-(p : Int))) (mkE 1 (-(j : Int))))
 have he:=mkE_at hr (k:=400) (by omega)
 rw [hM] at hd hv hz2
 rw [hE] at hd hv he
 refine ⟨hr, ?_, by omega, by omega, hv⟩
 rw [hd, dq_add, a5]
 have e : dq (t * mkM 1 (-(j : Int))) (mkE 1 (-(j : Int))) = (t : Rat) * dq 1 (-(j : Int)):=by
  rw [dq_scale, Rat.intCast_mul, Rat.mul_assoc, ← dq_scale, b5]
 rw [e]


theorem abs_floor (y : Int) {n : Int} (hn : 0 < n) : (y / n).natAbs ≤ y.natAbs:=by
 rcases Int.lt_or_le y 0 with h | h
 ·have h1 : y / n < 0:=Int.ediv_neg_of_neg_of_pos h hn
  have h2 : y ≤ y / n:=by
   rw [Int.le_ediv_iff_mul_le hn]
   have:=Int.mul_le_mul_of_nonneg_left (show (1 : Int) ≤ n by omega) (show 0 ≤ -y by omega)
   rw [Int.mul_one, Int.neg_mul] at this
   omega
  omega
 ·have h1:=Int.ediv_nonneg h (show 0 ≤ n by omega)
  have h2:=Int.ediv_le_self n h
  omega
theorem zl_floor (y : Int) {n : Int} (hn : 0 < n) : zl (y / n) ≤ zl y:=len_mono (abs_floor y hn)
theorem zl_cdv (y : Int) {n : Int} (hn : 0 < n) : zl (cdv y n) ≤ zl y:=by
 unfold cdv
 rw [zl_neg]
 exact Nat.le_trans (zl_floor (-y) hn) (Nat.le_of_eq (zl_neg y))

set_option maxHeartbeats 8000000 in
theorem s13overD_any (x n : Int) (vx vn : Value) (w : World) (hx : IsZ w vx x) (hn : IsZ w vn n) (lx : zl x ≤ 1000000) (ln : zl n ≤ 1000000) (h0 : 0 < n) :
  Calls Tryz.prog 177 #[vx, vn, .bool false] w (RetZ w (x / n)):=by
 obtain ⟨A, c, rfl, in1⟩:=hx.form
 obtain ⟨B, d, rfl, in2⟩:=hn.form
 have L0:=((Lq.mk0 w).z hn).z hx
 have g2:=fun v u W h k => rzdivmod_pos x n v u W h k (by omega) (by omega) h0
 obtain ⟨C, hC⟩ : ∃ z, x / n = z:=⟨_, rfl⟩
 obtain ⟨R, hR⟩ : ∃ z, x % n = z:=⟨_, rfl⟩
 rw [hC, hR] at g2
 rw [hC]
 have H2:=Lib.hid g2
 clear g2 hC hR hx hn in1 in2 h0
 go_enter Tryz.func177, Tryz.ntmps177
 go_wp2_with fail
 have L:=(((L0.varZ (w.heap.size) (by simp) (ng x) A (zl x) c).varZ (w.heap.size + 1) (by simp) (ng n) B (zl n) d).varZ (w.heap.size + 2) (by simp) false none 0 0)
 have c00:=L.b0.c20
 have f00:=L.b0.fr 0
 have c01:=L.b0.c21
 have f01:=L.b0.fr 1
 have c10:=L.tl.b0.c20
 have c11:=L.tl.b0.c21
 have c20:=L.tl.tl.b0.c20
 have c21:=L.tl.tl.b0.c21
 (try go_wp2_with fail)
 refine (H2.out _ _ _ (L.getZ (by simp)) (L.getZ (by simp))).mono ?_
 rintro e w1 ⟨v1, v2, rfl, i1, i2, be⟩
 clear c00 f00 c01 f01 c10 c11 c20 c21
 replace L:=((L.step be).z i2).z i1
 obtain ⟨A7, c7, rfl, _⟩:=i1.form
 obtain ⟨A6, c6, rfl, _⟩:=i2.form
 clear be i1 i2
 have hlt:=L.b0.lt
 have c00:=L.b0.c20
 have f00:=L.b0.fr 0
 have c01:=L.b0.c21
 have f01:=L.b0.fr 1
 have c10:=L.tl.b0.c20
 have c11:=L.tl.b0.c21
 have c20:=L.tl.tl.b0.c20
 have c21:=L.tl.tl.b0.c21
 replace L:=(L.varZ w1.heap.size rfl (ng C) A7 (zl C) c7).varZ (w1.heap.size + 1) (by simp) (ng R) A6 (zl R) c6
 have y0:=L.tl.b0.c20
 have y1:=L.tl.b0.c21
 have y2:=L.tl.tl.b0.c20
 have y3:=L.tl.tl.b0.c21
 have y4:=L.tl.tl.b0.fr 0
 have y5:=L.tl.tl.b0.fr 1
 have d1 : w.heap.size + 2 ≠ w1.heap.size:=by omega
 have d2 : w.heap.size + 2 ≠ w1.heap.size + 1:=by omega
 have d3 : w.heap.size + 1 + 1 ≠ w1.heap.size:=by omega
 have d4 : w.heap.size + 1 + 1 ≠ w1.heap.size + 1:=by omega
 go_wp2_with fail
 clear c00 f00 c01 f01 c10 c11 c20 c21
 replace L:=L.pull2
 have LP:=L.putZ (by omega) (by first | (simp; done) | (simp; omega)) (ng C) A7 (zl C) c7
 have k0:=LP.b0.c20
 have k1:=LP.b0.c21
 unfold put2 at k0 k1
 exact bodyPost_ret (v:=.agg #[.bool (ng C), .slice A7 (zl C) c7]) (by simp [results, Tryz.results177, go_sem, k0, k1]) rfl ⟨_, rfl, LP.hz, LP.below⟩
set_option maxHeartbeats 8000000 in
theorem s13overU_any (x n : Int) (vx vn : Value) (w : World) (hx : IsZ w vx x) (hn : IsZ w vn n) (lx : zl x ≤ 1000000) (ln : zl n ≤ 1000000) (h0 : 0 < n) :
  Calls Tryz.prog 177 #[vx, vn, .bool true] w (RetZ w (cdv x n)):=by
 obtain ⟨A, c, rfl, in1⟩:=hx.form
 obtain ⟨B, d, rfl, in2⟩:=hn.form
 have L0:=((Lq.mk0 w).z hn).z hx
 have z1:=zl_neg x
 have z2:=zl_floor (-x) h0
 unfold cdv
 have g1:=fun v W h => rzneg_any x v W h (by omega)
 have g2:=fun v u W h k => rzdivmod_pos (-x) n v u W h k (by omega) (by omega) h0
 have g3:=fun v W h => rzneg_any (-x / n) v W h (by omega)
 obtain ⟨y, hy⟩ : ∃ z, -x = z:=⟨_, rfl⟩
 rw [hy] at g1 g2 g3 ⊢
 obtain ⟨C, hC⟩ : ∃ z, y / n = z:=⟨_, rfl⟩
 obtain ⟨R, hR⟩ : ∃ z, y % n = z:=⟨_, rfl⟩
 rw [hC, hR] at g2
 rw [hC] at g3 ⊢
 obtain ⟨E, hE⟩ : ∃ z, -C = z:=⟨_, rfl⟩
 rw [hE] at g3 ⊢
 have H1:=Lib.hid g1
 have H2:=Lib.hid g2
 have H3:=Lib.hid g3
 clear g1 g2 g3 hC hR hE hy hx hn in1 in2 h0 z1 z2
 go_enter Tryz.func177, Tryz.ntmps177
 go_wp2_with fail
 have L:=(((L0.varZ (w.heap.size) (by simp) (ng x) A (zl x) c).varZ (w.heap.size + 1) (by simp) (ng n) B (zl n) d).varZ (w.heap.size + 2) (by simp) false none 0 0)
 have c00:=L.b0.c20
 have f00:=L.b0.fr 0
 have c01:=L.b0.c21
 have f01:=L.b0.fr 1
 have c10:=L.tl.b0.c20
 have c11:=L.tl.b0.c21
 have c20:=L.tl.tl.b0.c20
 have c21:=L.tl.tl.b0.c21
 (try go_wp2_with fail)
 clear c00 f00 c01 f01 c10 c11 c20 c21
 obtain ⟨V, hV⟩ : ∃ V, ((w.alloc (.cells #[.bool (ng x), .slice A (zl x) c] 24)).alloc (.cells #[.bool (ng n), .slice B (zl n) d] 24)).alloc (.cells #[.bool false, .slice none 0 0] 24) = V:=⟨_, rfl⟩
 rw [hV] at L ⊢
 clear hV
 have Q0:=Lib.hid (fun Z (hZ : Below V.heap.size V Z) => (L.tl.tl.b0.mono hZ).c20)
 have Q1:=Lib.hid (fun Z (hZ : Below V.heap.size V Z) => (L.tl.tl.b0.mono hZ).c21)
 have Q2:=Lib.hid (fun Z (hZ : Below V.heap.size V Z) => (L.tl.b0.mono hZ).c20)
 have Q3:=Lib.hid (fun Z (hZ : Below V.heap.size V Z) => (L.tl.b0.mono hZ).c21)
 have hgx0:=L.b0.lt
 have D0 : Dq V V [] [(.agg #[.bool (ng x), .slice A (zl x) c], x), (.agg #[.bool (ng n), .slice B (zl n) d], n)] [] []:=⟨((Lq.mk0 V).z (L.getZ (by simp))).z (L.getZ (by simp)), List.nodup_nil, fun p hp => by cases hp⟩
 have LL:=Lib.hid L
 clear L
 have D:=D0.drew
 obtain ⟨m, hmw⟩ : ∃ m, V.heap.size = m:=⟨_, rfl⟩
 have hz0 : m ≤ V.heap.size:=by omega
 have hgx : w.heap.size < m:=by omega
 have hgy : w.heap.size + 1 < m:=by omega
 have hmd : V.drew.heap.size = m:=hmw
 go_cut [7, 8, 9] from 14 to 21 (fun s3 s4 s5 wx => s5 = .bool true ∧ Made2Z V C R s3 s4 wx)
 case first =>
  go_region_held3 (fun w' => w'.cell? ⟨w.heap.size, 0, none⟩ = some (.bool (ng x)) ∧ w'.cell? ⟨w.heap.size, 1, none⟩ = some (.slice A (zl x) c) ∧ w'.cell? ⟨(w.heap.size + 1), 0, none⟩ = some (.bool (ng n)) ∧ w'.cell? ⟨(w.heap.size + 1), 1, none⟩ = some (.slice B (zl n) d)) (((try dsimp only); refine ⟨?_, ?_, ?_, ?_⟩ <;> (repeat (first | (with_reducible exact Q0.out _ D.lq.below) | (with_reducible exact Q0.out _ D0.lq.below) | (with_reducible exact Q1.out _ D.lq.below) | (with_reducible exact Q1.out _ D0.lq.below) | (with_reducible exact Q2.out _ D.lq.below) | (with_reducible exact Q2.out _ D0.lq.below) | (with_reducible exact Q3.out _ D.lq.below) | (with_reducible exact Q3.out _ D0.lq.below) | (with_reducible refine c_alloc _ ?_) | (with_reducible refine c_drew ?_) | (with_reducible refine c_set ?_ (by assumption) ?_) | omega)))) (first | (go_at_call 94; (with_reducible refine (H1.out _ _ ?_).mono ?_); (· (first | ((with_reducible refine D.getZ ?_) <;> (repeat (first | (with_reducible exact List.mem_cons_self) | apply List.mem_cons_of_mem))) | ((with_reducible refine (D.boxZ false none 0 0).getZ ?_) <;> (repeat (first | (with_reducible exact List.mem_cons_self) | apply List.mem_cons_of_mem))) | ((with_reducible refine (D.boxZ2 false none 0 0 false none 0 0).getZ ?_) <;> (repeat (first | (with_reducible exact List.mem_cons_self) | apply List.mem_cons_of_mem))) | ((with_reducible refine (D0.boxZ false none 0 0).drew.getZ ?_) <;> (repeat (first | (with_reducible exact List.mem_cons_self) | apply List.mem_cons_of_mem))) | ((with_reducible refine (D0.boxZ2 false none 0 0 false none 0 0).drew.getZ ?_) <;> (repeat (first | (with_reducible exact List.mem_cons_self) | apply List.mem_cons_of_mem))))); rintro e9 wh ⟨vh, rfl, iz, be⟩; (first | (replace D:=D.step be) | (replace D:=(D.boxMZ hmd false none 0 0).step be) | (replace D:=(D.boxMZ2 hmd false none 0 0 false none 0 0).step be) | (replace D:=(D.boxZ false none 0 0).step be) | (replace D:=(D.boxZ2 false none 0 0 false none 0 0).step be)); have hz:=be.size; (try simp at hz); replace D:=D.z iz; obtain ⟨A8, c8, rfl, _⟩:=iz.form; clear iz; (try (have q000:=D.lq.b0.c20; have q001:=D.lq.b0.c21; have q002:=D.lq.b0.fr 0; have q003:=D.lq.b0.fr 1)); (try (have q010:=(D.alloc (.cells #[.bool false, .slice none 0 0] 24)).lq.b0.c20; have q011:=(D.alloc (.cells #[.bool false, .slice none 0 0] 24)).lq.b0.c21; have q012:=(D.alloc (.cells #[.bool false, .slice none 0 0] 24)).lq.b0.fr 0; have q013:=(D.alloc (.cells #[.bool false, .slice none 0 0] 24)).lq.b0.fr 1)); (try (have q020:=((D.alloc (.cells #[.bool false, .slice none 0 0] 24)).alloc (.cells #[.bool false, .slice none 0 0] 24)).lq.b0.c20; have q021:=((D.alloc (.cells #[.bool false, .slice none 0 0] 24)).alloc (.cells #[.bool false, .slice none 0 0] 24)).lq.b0.c21; have q022:=((D.alloc (.cells #[.bool false, .slice none 0 0] 24)).alloc (.cells #[.bool false, .slice none 0 0] 24)).lq.b0.fr 0; have q023:=((D.alloc (.cells #[.bool false, .slice none 0 0] 24)).alloc (.cells #[.bool false, .slice none 0 0] 24)).lq.b0.fr 1)); (try (have q100:=D.lq.tl.b0.c20; have q101:=D.lq.tl.b0.c21; have q102:=D.lq.tl.b0.fr 0; have q103:=D.lq.tl.b0.fr 1)); (try (have q110:=(D.alloc (.cells #[.bool false, .slice none 0 0] 24)).lq.tl.b0.c20; have q111:=(D.alloc (.cells #[.bool false, .slice none 0 0] 24)).lq.tl.b0.c21; have q112:=(D.alloc (.cells #[.bool false, .slice none 0 0] 24)).lq.tl.b0.fr 0; have q113:=(D.alloc (.cells #[.bool false, .slice none 0 0] 24)).lq.tl.b0.fr 1)); (try (have q120:=((D.alloc (.cells #[.bool false, .slice none 0 0] 24)).alloc (.cells #[.bool false, .slice none 0 0] 24)).lq.tl.b0.c20; have q121:=((D.alloc (.cells #[.bool false, .slice none 0 0] 24)).alloc (.cells #[.bool false, .slice none 0 0] 24)).lq.tl.b0.c21; have q122:=((D.alloc (.cells #[.bool false, .slice none 0 0] 24)).alloc (.cells #[.bool false, .slice none 0 0] 24)).lq.tl.b0.fr 0; have q123:=((D.alloc (.cells #[.bool false, .slice none 0 0] 24)).alloc (.cells #[.bool false, .slice none 0 0] 24)).lq.tl.b0.fr 1)); (try obtain ⟨na, nb, nc, nd, nl⟩:=D.n0); (try obtain ⟨ne, nf, ng', nh, nm⟩:=D.n1); (try obtain ⟨ni, nj⟩:=D.n01)) | (go_at_call 152; (with_reducible refine (H2.out _ _ _ ?_ ?_).mono ?_); (· (first | ((with_reducible refine D.getZ ?_) <;> (repeat (first | (with_reducible exact List.mem_cons_self) | apply List.mem_cons_of_mem))) | ((with_reducible refine (D.boxZ false none 0 0).getZ ?_) <;> (repeat (first | (with_reducible exact List.mem_cons_self) | apply List.mem_cons_of_mem))) | ((with_reducible refine (D.boxZ2 false none 0 0 false none 0 0).getZ ?_) <;> (repeat (first | (with_reducible exact List.mem_cons_self) | apply List.mem_cons_of_mem))) | ((with_reducible refine (D0.boxZ false none 0 0).drew.getZ ?_) <;> (repeat (first | (with_reducible exact List.mem_cons_self) | apply List.mem_cons_of_mem))) | ((with_reducible refine (D0.boxZ2 false none 0 0 false none 0 0).drew.getZ ?_) <;> (repeat (first | (with_reducible exact List.mem_cons_self) | apply List.mem_cons_of_mem))))); (· (first | ((with_reducible refine D.getZ ?_) <;> (repeat (first | (with_reducible exact List.mem_cons_self) | apply List.mem_cons_of_mem))) | ((with_reducible refine (D.boxZ false none 0 0).getZ ?_) <;> (repeat (first | (with_reducible exact List.mem_cons_self) | apply List.mem_cons_of_mem))) | ((with_reducible refine (D.boxZ2 false none 0 0 false none 0 0).getZ ?_) <;> (repeat (first | (with_reducible exact List.mem_cons_self) | apply List.mem_cons_of_mem))) | ((with_reducible refine (D0.boxZ false none 0 0).drew.getZ ?_) <;> (repeat (first | (with_reducible exact List.mem_cons_self) | apply List.mem_cons_of_mem))) | ((with_reducible refine (D0.boxZ2 false none 0 0 false none 0 0).drew.getZ ?_) <;> (repeat (first | (with_reducible exact List.mem_cons_self) | apply List.mem_cons_of_mem))))); rintro e9 wh ⟨vh, vj, rfl, iz, iy, be⟩; (first | (replace D:=D.step be) | (replace D:=(D.boxMZ hmd false none 0 0).step be) | (replace D:=(D.boxMZ2 hmd false none 0 0 false none 0 0).step be) | (replace D:=(D.boxZ false none 0 0).step be) | (replace D:=(D.boxZ2 false none 0 0 false none 0 0).step be)); have hzz:=be.size; (try simp at hzz); replace D:=(D.z iy).z iz; obtain ⟨A7, c7, rfl, _⟩:=iz.form; obtain ⟨A6, c6, rfl, _⟩:=iy.form; clear iz iy; (try (have q000:=D.lq.b0.c20; have q001:=D.lq.b0.c21; have q002:=D.lq.b0.fr 0; have q003:=D.lq.b0.fr 1)); (try (have q010:=(D.alloc (.cells #[.bool false, .slice none 0 0] 24)).lq.b0.c20; have q011:=(D.alloc (.cells #[.bool false, .slice none 0 0] 24)).lq.b0.c21; have q012:=(D.alloc (.cells #[.bool false, .slice none 0 0] 24)).lq.b0.fr 0; have q013:=(D.alloc (.cells #[.bool false, .slice none 0 0] 24)).lq.b0.fr 1)); (try (have q020:=((D.alloc (.cells #[.bool false, .slice none 0 0] 24)).alloc (.cells #[.bool false, .slice none 0 0] 24)).lq.b0.c20; have q021:=((D.alloc (.cells #[.bool false, .slice none 0 0] 24)).alloc (.cells #[.bool false, .slice none 0 0] 24)).lq.b0.c21; have q022:=((D.alloc (.cells #[.bool false, .slice none 0 0] 24)).alloc (.cells #[.bool false, .slice none 0 0] 24)).lq.b0.fr 0; have q023:=((D.alloc (.cells #[.bool false, .slice none 0 0] 24)).alloc (.cells #[.bool false, .slice none 0 0] 24)).lq.b0.fr 1)); (try (have q100:=D.lq.tl.b0.c20; have q101:=D.lq.tl.b0.c21; have q102:=D.lq.tl.b0.fr 0; have q103:=D.lq.tl.b0.fr 1)); (try (have q110:=(D.alloc (.cells #[.bool false, .slice none 0 0] 24)).lq.tl.b0.c20; have q111:=(D.alloc (.cells #[.bool false, .slice none 0 0] 24)).lq.tl.b0.c21; have q112:=(D.alloc (.cells #[.bool false, .slice none 0 0] 24)).lq.tl.b0.fr 0; have q113:=(D.alloc (.cells #[.bool false, .slice none 0 0] 24)).lq.tl.b0.fr 1)); (try (have q120:=((D.alloc (.cells #[.bool false, .slice none 0 0] 24)).alloc (.cells #[.bool false, .slice none 0 0] 24)).lq.tl.b0.c20; have q121:=((D.alloc (.cells #[.bool false, .slice none 0 0] 24)).alloc (.cells #[.bool false, .slice none 0 0] 24)).lq.tl.b0.c21; have q122:=((D.alloc (.cells #[.bool false, .slice none 0 0] 24)).alloc (.cells #[.bool false, .slice none 0 0] 24)).lq.tl.b0.fr 0; have q123:=((D.alloc (.cells #[.bool false, .slice none 0 0] 24)).alloc (.cells #[.bool false, .slice none 0 0] 24)).lq.tl.b0.fr 1)); (try obtain ⟨na, nb, nc, nd, nl⟩:=D.n0); (try obtain ⟨ne, nf, ng', nh, nm⟩:=D.n1); (try obtain ⟨ni, nj⟩:=D.n01)))
  all_goals
   go_wp2_with fail
   go_meet
   refine ⟨rfl, ?_⟩
   first
   | ((with_reducible refine made2z_a D ?_ ?_) <;> (repeat (first | (with_reducible exact List.mem_cons_self) | apply List.mem_cons_of_mem)))
   | ((with_reducible refine made2z_b D ?_ ?_) <;> (repeat (first | (with_reducible exact List.mem_cons_self) | apply List.mem_cons_of_mem)))
   | ((with_reducible refine made2z_c D ?_ ?_) <;> (repeat (first | (with_reducible exact List.mem_cons_self) | apply List.mem_cons_of_mem)))
   | ((with_reducible refine made2z_d D ?_ ?_) <;> (repeat (first | (with_reducible exact List.mem_cons_self) | apply List.mem_cons_of_mem)))
   | ((with_reducible refine made2z_e D ?_ ?_) <;> (repeat (first | (with_reducible exact List.mem_cons_self) | apply List.mem_cons_of_mem)))
   | ((with_reducible refine made2z_f D ?_ ?_) <;> (repeat (first | (with_reducible exact List.mem_cons_self) | apply List.mem_cons_of_mem)))
 case rest =>
  obtain ⟨rfl, g1, g2, A1, c1, A2, c2, rfl, rfl, hg1, hg2, hg3, bw, hb1, hb2, hz1, hz2⟩:=hcut
  have hg4:=LL.out.b0.lt
  have L:=((((LL.out.step bw).z hz2).z hz1).b hb2).b hb1
  clear D D0 hmd hz0 hgx hgy Q0 Q1 Q2 Q3 LL hb1 hb2 hz1 hz2 bw
  have e1 : w.heap.size + 2 ≠ g1:=by omega
  have e2 : w.heap.size + 2 ≠ g2:=by omega
  have e3 : w.heap.size + 1 + 1 ≠ g1:=by omega
  generalize wc = wd at *
  have c00:=L.b0.c20
  have c01:=L.b0.c21
  (try go_wp2_with fail)
  refine (H3.out _ _ (L.getZ (v:=.agg #[.bool (ng C), .slice A1 (zl C) c1]) (by simp))).mono ?_
  rintro e w6 ⟨v1, rfl, iz, be⟩
  clear c00 c01
  replace L:=(L.step be).z iz
  obtain ⟨A9, c9, rfl, _⟩:=iz.form
  clear be iz
  replace L:=L.pull2
  have c00:=L.b0.c20
  have f00:=L.b0.fr 0
  have c01:=L.b0.c21
  have f01:=L.b0.fr 1
  (try go_wp2_with fail)
  have LP:=L.putZ (by omega) (by first | (simp; done) | (simp; omega)) (ng E) A9 (zl E) c9
  have k0:=LP.b0.c20
  have k1:=LP.b0.c21
  unfold put2 at k0 k1
  exact bodyPost_ret (v:=.agg #[.bool (ng E), .slice A9 (zl E) c9]) (by simp [results, Tryz.results177, go_sem, k0, k1]) rfl ⟨_, rfl, LP.hz, LP.below⟩
def RowZ (w : World) (v : Value) (l : List Int) : Prop:=∃ g c, v = .slice (some ⟨g, 0, none⟩) l.length c ∧ g < w.heap.size ∧ ∀ (j : Nat) (p : Int), l[j]? = some p → ∃ A c, w.cell? ⟨g, 2 * j, none⟩ = some (.bool (ng p)) ∧ w.cell? ⟨g, 2 * j + 1, none⟩ = some (.slice A (zl p) c) ∧ IsZ w (.agg #[.bool (ng p), .slice A (zl p) c]) p
theorem RowZ.mono {w w' : World} {v : Value} {l : List Int} (h : RowZ w v l) (hb : Below w.heap.size w w') : RowZ w' v l:=by
 obtain ⟨g, c, r, hg, h⟩:=h
 refine ⟨g, c, r, Nat.lt_of_lt_of_le hg hb.size, fun j p hp => ?_⟩
 obtain ⟨A, c, h1, h2, h3⟩:=h j p hp
 exact ⟨A, c, (hb.cell (p:=⟨g, 2 * j, none⟩) hg).trans h1, (hb.cell (p:=⟨g, 2 * j + 1, none⟩) hg).trans h2, h3.mono hb⟩
def IsLstZ (x : Int) (l : List Int) : Prop:=x ∈ l ∧ ∀ p ∈ l, x ≤ p
def IsMstZ (x : Int) (l : List Int) : Prop:=x ∈ l ∧ ∀ p ∈ l, p ≤ x
theorem lst_eq {x : Int} {l : List Int} {p : Int} (h : IsLstZ x l) (hp : p ∈ l) (h2 : ∀ q ∈ l, p ≤ q) : p = x:=Int.le_antisymm (h2 x h.1) (h.2 p hp)
theorem mst_eq {x : Int} {l : List Int} {p : Int} (h : IsMstZ x l) (hp : p ∈ l) (h2 : ∀ q ∈ l, q ≤ p) : p = x:=Int.le_antisymm (h.2 p hp) (h2 x h.1)
def LoopZ (l : List Int) (t : Nat) (a1 a2 : Int) : Prop:=a1 ∈ l ∧ a2 ∈ l ∧ ∀ (j : Nat) (p : Int), j < t → l[j]? = some p → a1 ≤ p ∧ p ≤ a2
theorem LoopZ.step {l : List Int} {t : Nat} {a1 a2 a b1 b2 : Int} (h : LoopZ l t a1 a2) (hp : l[t]? = some a) (m1 : b1 ∈ l) (m2 : b2 ∈ l) (x1 : b1 ≤ a1) (x2 : b1 ≤ a) (y1 : a2 ≤ b2) (y2 : a ≤ b2) : LoopZ l (t + 1) b1 b2:=by
 refine ⟨m1, m2, fun j p hj hjp => ?_⟩
 rcases Nat.lt_or_ge j t with h1 | h1
 ·have:=h.2.2 j p h1 hjp
  exact ⟨Int.le_trans x1 this.1, Int.le_trans this.2 y1⟩
 ·obtain rfl : j = t:=by omega
  rw [hp] at hjp
  obtain rfl:=Option.some.inj hjp
  exact ⟨x2, y2⟩
theorem LoopZ.all {l : List Int} {a1 a2 : Int} {n : Nat} (hn : l.length = n) (h : LoopZ l n a1 a2) : (∀ q ∈ l, a1 ≤ q) ∧ ∀ q ∈ l, q ≤ a2:=by
 constructor <;> intro q hq <;> obtain ⟨j, hj, e⟩:=List.getElem_of_mem hq
 ·exact (h.2.2 j q (by omega) (by rw [← e]; exact List.getElem?_eq_getElem hj)).1
 ·exact (h.2.2 j q (by omega) (by rw [← e]; exact List.getElem?_eq_getElem hj)).2
theorem Lq.twoZ {w0 w : World} {ns : List (Value × Nat)} {zs : List (Value × Int)} {qs : List (Value × Int × Nat)} {bs : List (Nat × TypeId × Array Value)} (h : Lq w0 w ns zs qs bs) {p q : Value × Int} {b c : Nat × TypeId × Array Value} (hp : p ∈ zs) (hq : q ∈ zs) (hb : b ∈ bs) (hc : c ∈ bs) : Lq w0 w [] [p, q] [] [b, c]:=
 ⟨h.below, fun _ x => (by cases x), fun x hx => h.zs x (by simp only [List.mem_cons, List.not_mem_nil, or_false] at hx; rcases hx with rfl | rfl <;> assumption), fun _ x => (by cases x), fun x hx => h.bs x (by simp only [List.mem_cons, List.not_mem_nil, or_false] at hx; rcases hx with rfl | rfl <;> assumption)⟩
theorem cmpI_lt0 {x y : Int} : cmpI x y < 0 ↔ x < y:=by
 unfold cmpI
 (repeat' split) <;> omega
theorem cmpI_gt0 {x y : Int} : 0 < cmpI x y ↔ y < x:=by
 unfold cmpI
 (repeat' split) <;> omega

set_option maxHeartbeats 16000000 in
theorem s13hull_any (l : List Int) (lo hi n : Int) (vl vn : Value) (w : World) (hl : RowZ w vl l) (hn : IsZ w vn n) (h0 : 0 < l.length) (hsz : l.length ≤ 1000) (hb : ∀ p ∈ l, zl p ≤ 10000) (hlo : IsLstZ lo l) (hhi : IsMstZ hi l) (ln : zl n ≤ 10000) (hn0 : 0 < n) :
  Calls Tryz.prog 122 #[vl, vn] w (RetSp w (lo / n) (cdv hi n)):=by
 obtain ⟨g, c, rfl, hg, hrow⟩:=hl
 obtain ⟨N, cn, rfl, _⟩:=hn.form
 have HB:=Lib.hid hb
 have HLO:=Lib.hid hlo
 have HHI:=Lib.hid hhi
 have k1:=hb lo hlo.1
 have k2:=hb hi hhi.1
 have o1:=fun v u W h k => s13overD_any lo n v u W h k (by omega) (by omega) hn0
 have o2:=fun v u W h k => s13overU_any hi n v u W h k (by omega) (by omega) hn0
 obtain ⟨X, hX⟩ : ∃ z, lo / n = z:=⟨_, rfl⟩
 obtain ⟨Y, hY⟩ : ∃ z, cdv hi n = z:=⟨_, rfl⟩
 rw [hX] at o1 ⊢
 rw [hY] at o2 ⊢
 have O1:=Lib.hid o1
 have O2:=Lib.hid o2
 clear o1 o2 hX hY k1 k2
 clear hb hlo hhi hn0
 obtain ⟨a0, hp0⟩ : ∃ p, l[0]? = some p:=⟨l[0], List.getElem?_eq_getElem h0⟩
 obtain ⟨A0, c0, r0, r1, r3⟩:=hrow 0 _ hp0
 have HM0:=Lib.hid (List.mem_of_getElem? hp0)
 rw [Nat.mul_zero] at r0 r1
 obtain ⟨k, hk⟩ : ∃ k, l.length = k:=⟨_, rfl⟩
 rw [hk] at h0 hsz ⊢
 have hk0 : (0 : Int) < (k : Int):=by omega
 have HN:=Lib.hid hk
 have HROW0:=Lib.hid hrow
 clear hp0 hk hrow
 go_enter Tryz.func122, Tryz.ntmps122
 go_wp2_with fail
 have L:=(((((Lq.mk0 w).z hn).z r3).varZ (w.heap.size) (by simp) (ng n) N (zl n) cn).varS (w.heap.size + 1) (by simp) false none 0 0 false none 0 0)
 have c00:=L.b0.c40
 have f00:=L.b0.fr 0
 have c01:=L.b0.c41
 have f01:=L.b0.fr 1
 have c02:=L.b0.c42
 have f02:=L.b0.fr 2
 have c03:=L.b0.c43
 have f03:=L.b0.fr 3
 have c10:=L.tl.b0.c20
 have c11:=L.tl.b0.c21
 (try go_wp2_with fail)
 clear c00 f00 c01 f01 c02 f02 c03 f03 c10 c11
 obtain ⟨V, hV⟩ : ∃ V, (w.alloc (.cells #[.bool (ng n), .slice N (zl n) cn] 24)).alloc (.cells #[.bool false, .slice none 0 0, .bool false, .slice none 0 0] 71) = V:=⟨_, rfl⟩
 rw [hV] at L ⊢
 clear hV
 have hwV:=L.b0.lt
 have hgV : g < V.heap.size:=by omega
 have HROW:=Lib.hid (fun Z (hZ : Below V.heap.size V Z) (j : Nat) (p : Int) (hp : l[j]? = some p) => (show ∃ A c, Z.cell? ⟨g, 2 * j, none⟩ = some (.bool (ng p)) ∧ Z.cell? ⟨g, 2 * j + 1, none⟩ = some (.slice A (zl p) c) ∧ IsZ Z (.agg #[.bool (ng p), .slice A (zl p) c]) p from by
  obtain ⟨A, c, x1, x2, x4⟩:=HROW0.out j p hp
  have hbz:=L.below.trans (hZ.mono L.below.size)
  exact ⟨A, c, (hbz.cell (p:=⟨g, 2 * j, none⟩) hg).trans x1, (hbz.cell (p:=⟨g, 2 * j + 1, none⟩) hg).trans x2, x4.mono hbz⟩))
 have q0:=(L.below.cell (p:=⟨g, 0, none⟩) hg).trans r0
 have q1:=(L.below.cell (p:=⟨g, 0 + 1, none⟩) hg).trans r1
 rw [Nat.zero_add] at q1
 have Q0:=Lib.hid (fun Z (hZ : Below V.heap.size V Z) => (hZ.cell (p:=⟨g, 0, none⟩) hgV).trans q0)
 have Q1:=Lib.hid (fun Z (hZ : Below V.heap.size V Z) => (hZ.cell (p:=⟨g, 1, none⟩) hgV).trans q1)
 clear q0 q1 r0 r1 r3 HROW0 hn
 have D0 : Dq V V [] [(.agg #[.bool (ng a0), .slice A0 (zl a0) c0], a0)] [] []:=⟨(Lq.mk0 V).z (L.getZ (by simp)), List.nodup_nil, fun p hp => by cases hp⟩
 have D:=D0.drew
 have LL:=Lib.hid L
 clear L
 obtain ⟨K, hK⟩ : ∃ K, V.heap.size = K:=⟨_, rfl⟩
 have hz0 : K ≤ V.heap.size:=by omega
 have hcg : g < K:=by omega
 have hmd : V.drew.heap.size = K:=hK
 go_cut [5, 6] from 9 to 14 (fun s6 s7 wx => Made2Z V a0 a0 s6 s7 wx)
 case first =>
  go_region_held3 (fun w' => w'.cell? ⟨g, 0, none⟩ = some (.bool (ng a0)) ∧ w'.cell? ⟨g, 1, none⟩ = some (.slice A0 (zl a0) c0)) (((try dsimp only); refine ⟨?_, ?_⟩ <;> (repeat (first | (with_reducible exact Q0.out _ D.lq.below) | (with_reducible exact Q0.out _ D0.lq.below) | (with_reducible exact Q1.out _ D.lq.below) | (with_reducible exact Q1.out _ D0.lq.below) | (with_reducible refine c_alloc _ ?_) | (with_reducible refine c_drew ?_) | (with_reducible refine c_set ?_ (by assumption) ?_) | omega)))) (fail)
  all_goals
   go_wp2_with fail
   go_meet
   have E1:=(D0.boxZ2 (ng a0) A0 (zl a0) c0 (ng a0) A0 (zl a0) c0).drew
   rw [hK] at E1
   first
   | exact made2z_of E1.swap (by simp) (by simp)
   | exact made2z_of E1 (by simp) (by simp)
 case rest =>
  obtain ⟨g5, g6, A1, c1, A2, c2, rfl, rfl, hg5, hg6, hg56, bw, hb1, hb2, hq1, hq2⟩:=hcut
  have L:=(((((Lq.mk0 V).step bw).z hq2).z hq1).b hb2).b hb1
  clear D D0 hmd hz0 hK hb1 hb2 hq1 hq2 bw Q0 Q1 hcg
  generalize wc = wd at *
  have HF:=Lib.hid (show LoopZ l 0 a0 a0 from ⟨HM0.out, HM0.out, fun j p hj => absurd hj (Nat.not_lt_zero j)⟩)
  (try go_wp2_with fail)
  go_loopw [17] (fun i wr => ∃ (t : Nat) (a1 : Int) (A1 : Option Addr) (c1 : Nat) (a2 : Int) (A2 : Option Addr) (c2 : Nat), i = .int .i64 (t : Int) ∧ t ≤ k ∧ Lq V wr [] [(.agg #[.bool (ng a1), .slice A1 (zl a1) c1], a1), (.agg #[.bool (ng a2), .slice A2 (zl a2) c2], a2)] [] [(g5, 24, #[.bool (ng a1), .slice A1 (zl a1) c1]), (g6, 24, #[.bool (ng a2), .slice A2 (zl a2) c2])] ∧ Hid (LoopZ l t a1 a2)) (fun i _ => k - (intOf i).toNat)
  case atStart => exact ⟨0, a0, A1, c1, a0, A2, c2, rfl, by omega, L, HF⟩
  case round =>
   clear L HF
   obtain ⟨t, a1, A1, c1, a2, A2, c2, rfl, ht, L, HF⟩:=hrel
   rcases Nat.eq_or_lt_of_le ht with rfl | ht3
   ·have ha:=HF.out.all HN.out
    have el:=lst_eq HLO.out HF.out.1 ha.1
    have eh:=mst_eq HHI.out HF.out.2.1 ha.2
    subst el eh
    have hv6:=L.tl.b0
    have hv5:=L.b0
    have L:=(((((LL.out.step L.below).z (L.getZ (v:=.agg #[.bool (ng a2), .slice A2 (zl a2) c2]) (x:=a2) (by simp))).z (L.getZ (v:=.agg #[.bool (ng a1), .slice A1 (zl a1) c1]) (x:=a1) (by simp))).b hv6).b hv5).pull2
    clear hv5 hv6 HF HROW LL
    have e1 : w.heap.size + 1 ≠ g5:=by omega
    have e2 : w.heap.size + 1 ≠ g6:=by omega
    (try go_wp2_with fail)
    replace L:=L.drew
    have c00:=L.b0.c40
    have f00:=L.b0.fr 0
    have c01:=L.b0.c41
    have f01:=L.b0.fr 1
    have c02:=L.b0.c42
    have f02:=L.b0.fr 2
    have c03:=L.b0.c43
    have f03:=L.b0.fr 3
    have c10:=L.tl.b0.c20
    have c11:=L.tl.b0.c21
    have c20:=L.tl.tl.b0.c20
    have c21:=L.tl.tl.b0.c21
    have c30:=L.tl.tl.tl.b0.c20
    have c31:=L.tl.tl.tl.b0.c21
    go_region_held3 (fun w' => w'.cell? ⟨g5, 0, none⟩ = some (.bool (ng a1)) ∧ w'.cell? ⟨g5, 1, none⟩ = some (.slice A1 (zl a1) c1) ∧ w'.cell? ⟨g6, 0, none⟩ = some (.bool (ng a2)) ∧ w'.cell? ⟨g6, 1, none⟩ = some (.slice A2 (zl a2) c2) ∧ w'.cell? ⟨w.heap.size, 0, none⟩ = some (.bool (ng n)) ∧ w'.cell? ⟨w.heap.size, 1, none⟩ = some (.slice N (zl n) cn)) (first | (with_reducible exact ⟨L.tl.b0.c20, L.tl.b0.c21, L.tl.tl.b0.c20, L.tl.tl.b0.c21, L.tl.tl.tl.b0.c20, L.tl.tl.tl.b0.c21⟩) | (have LP:=L.putS (by omega) (by first | (simp; done) | (simp; omega)) (ng X) A8 (zl X) c8 (ng Y) A9 (zl Y) c9; unfold put4 at LP; with_reducible exact ⟨LP.tl.b0.c20, LP.tl.b0.c21, LP.tl.tl.b0.c20, LP.tl.tl.b0.c21, LP.tl.tl.tl.b0.c20, LP.tl.tl.tl.b0.c21⟩) | exact ⟨L.tl.b0.c20, L.tl.b0.c21, L.tl.tl.b0.c20, L.tl.tl.b0.c21, L.tl.tl.tl.b0.c20, L.tl.tl.tl.b0.c21⟩) (first | (go_at_call 177; (with_reducible refine (O1.out _ _ _ ?_ ?_ ).mono ?_); (· (refine L.getZ ?_; (repeat (first | (with_reducible exact List.mem_cons_self) | apply List.mem_cons_of_mem)))); (· (refine L.getZ ?_; (repeat (first | (with_reducible exact List.mem_cons_self) | apply List.mem_cons_of_mem)))); rintro e wh ⟨vh, rfl, iz, be⟩; obtain ⟨A8, c8, rfl, in9⟩:=iz.form; replace L:=(L.step be).n in9; clear be iz in9; (try (have x00:=L.b0.c40; have y00:=L.b0.fr 0; have x01:=L.b0.c41; have y01:=L.b0.fr 1; have x02:=L.b0.c42; have y02:=L.b0.fr 2; have x03:=L.b0.c43; have y03:=L.b0.fr 3))) | (go_at_call 177; (with_reducible refine (O2.out _ _ _ ?_ ?_ ).mono ?_); (· (refine L.getZ ?_; (repeat (first | (with_reducible exact List.mem_cons_self) | apply List.mem_cons_of_mem)))); (· (refine L.getZ ?_; (repeat (first | (with_reducible exact List.mem_cons_self) | apply List.mem_cons_of_mem)))); rintro e wh ⟨vh, rfl, iz, be⟩; obtain ⟨A9, c9, rfl, in9⟩:=iz.form; replace L:=(L.step be).n in9; clear be iz in9; (try (have x00:=L.b0.c40; have y00:=L.b0.fr 0; have x01:=L.b0.c41; have y01:=L.b0.fr 1; have x02:=L.b0.c42; have y02:=L.b0.fr 2; have x03:=L.b0.c43; have y03:=L.b0.fr 3))))
    clear c00 f00 c01 f01 c02 f02 c03 f03 c10 c11 c20 c21 c30 c31
    go_wp2_with fail
    have LP:=L.putS (by omega) (by first | (simp; done) | (simp; omega)) (ng X) A8 (zl X) c8 (ng Y) A9 (zl Y) c9
    have k0:=LP.b0.c40
    have k1:=LP.b0.c41
    have k2:=LP.b0.c42
    have k3:=LP.b0.c43
    unfold put4 at k0 k1 k2 k3
    exact bodyPost_ret (v:=.agg #[.bool (ng X), .slice A8 (zl X) c8, .bool (ng Y), .slice A9 (zl Y) c9]) (by simp [results, Tryz.results122, go_sem, k0, k1, k2, k3]) rfl ⟨_, rfl, isS_n (LP.getN (by simp)) (LP.getN (by simp)), LP.below⟩
   ·obtain ⟨a, hp⟩ : ∃ p, l[t]? = some p:=⟨_, List.getElem?_eq_getElem (by rw [HN.out]; exact ht3)⟩
    obtain ⟨A, cc, e0, e1, iq⟩:=HROW.out _ L.below t _ hp
    rw [Nat.mul_comm 2 t] at e0 e1
    have HP:=Lib.hid hp
    have hd:=HB.out _ (List.mem_of_getElem? hp)
    have hd1:=HB.out _ HF.out.1
    have hd2:=HB.out _ HF.out.2.1
    have z1:=fun v u W h1 h2 => rzcmp_any a a1 v u W h1 h2 (by omega) (by omega)
    have z2:=fun v u W h1 h2 => rzcmp_any a a2 v u W h1 h2 (by omega) (by omega)
    have j1:=cmpI_lt0 (x:=a) (y:=a1)
    have j2:=cmpI_gt0 (x:=a) (y:=a2)
    obtain ⟨x1, hx1⟩ : ∃ x, cmpI a a1 = x:=⟨_, rfl⟩
    obtain ⟨x2, hx2⟩ : ∃ x, cmpI a a2 = x:=⟨_, rfl⟩
    rw [hx1] at z1 j1
    rw [hx2] at z2 j2
    have C1:=Lib.hid z1
    have C2:=Lib.hid z2
    have J1:=Lib.hid j1
    have J2:=Lib.hid j2
    have hlt : (t : Int) < (k : Int):=by omega
    have ht0 : (0 : Int) ≤ (t : Int):=by omega
    have hl5:=L.b0.lt
    have hl6:=L.tl.b0.lt
    clear hp z1 z2 j1 j2 hx1 hx2 hd hd1 hd2
    replace L:=(L.z iq).varZ wr.heap.size rfl (ng a) A (zl a) cc
    clear iq
    have cel00:=L.b0.c20
    have cel01:=L.b0.c21
    have cel10:=L.tl.b0.c20
    have cel11:=L.tl.b0.c21
    go_wp2_with fail
    obtain ⟨gx, hgx⟩ : ∃ gx, wr.heap.size = gx:=⟨_, rfl⟩
    rw [hgx] at L hl5 hl6 cel00 cel01 ⊢
    clear hgx e0 e1
    have n1 : g5 ≠ gx:=by omega
    have n2 : g6 ≠ gx:=by omega
    have n3 : g6 ≠ g5:=Ne.symm hg56
    refine (C1.out _ _ _ (L.getZ (v:=.agg #[.bool (ng a), .slice A (zl a) cc]) (x:=a) (by simp)) (L.getZ (v:=.agg #[.bool (ng a1), .slice A1 (zl a1) c1]) (x:=a1) (by simp))).mono ?_
    rintro e w21 ⟨rfl, be⟩
    clear cel00 cel01 cel10 cel11
    replace L:=L.step be
    clear be
    by_cases y1 : x1 < 0
    ·have t1 : decide (x1 < 0) = true:=decide_eq_true y1
     have cel00:=L.b0.c20
     have f00:=L.b0.fr 0
     have cel01:=L.b0.c21
     have f01:=L.b0.fr 1
     have cel10:=L.tl.b0.c20
     have f10:=L.tl.b0.fr 0
     have cel11:=L.tl.b0.c21
     have f11:=L.tl.b0.fr 1
     have P:=(L.swap.putZ hg5 (by simp [n1, n2, n3, Ne.symm n1]) (ng a) A (zl a) cc).swap
     have p0:=P.b0.c20
     have p1:=P.b0.c21
     have p3:=P.tl.tl.b0.c20
     have p4:=P.tl.tl.b0.c21
     unfold put2 at p0 p1 p3 p4 P
     replace L:=P
     go_wp2_with fail
     refine (C2.out _ _ _ (L.getZ (v:=.agg #[.bool (ng a), .slice A (zl a) cc]) (x:=a) (by simp)) (L.getZ (v:=.agg #[.bool (ng a2), .slice A2 (zl a2) c2]) (x:=a2) (by simp))).mono ?_
     rintro e w22 ⟨rfl, be⟩
     replace L:=L.step be
     clear be
     by_cases y2 : 0 < x2
     ·have t2 : decide (0 < x2) = true:=decide_eq_true y2
      have cel00:=L.b0.c20
      have f00:=L.b0.fr 0
      have cel01:=L.b0.c21
      have f01:=L.b0.fr 1
      have cel20:=L.tl.tl.b0.c20
      have f20:=L.tl.tl.b0.fr 0
      have cel21:=L.tl.tl.b0.c21
      have f21:=L.tl.tl.b0.fr 1
      have P:=(L.pull2.putZ hg6 (by simp [n1, n2, n3, Ne.symm n1, Ne.symm n2, Ne.symm n3]) (ng a) A (zl a) cc)
      unfold put2 at P
      replace L:=P
      go_wp2_with fail
      go_roundw
      case rel => exact ⟨t + 1, a, A, cc, a, A, cc, by go_num, by omega, L.twoZ (by simp) (by simp) (by simp) (by simp), Lib.hid (HF.out.step HP.out (List.mem_of_getElem? HP.out) (List.mem_of_getElem? HP.out) (Int.le_of_lt (J1.out.1 y1)) (Int.le_refl _) (Int.le_of_lt (J2.out.1 y2)) (Int.le_refl _))⟩
      case measure => simp [intOf]; omega
     ·have t2 : decide (0 < x2) = false:=decide_eq_false y2
      have cel00:=L.b0.c20
      have f00:=L.b0.fr 0
      have cel01:=L.b0.c21
      have f01:=L.b0.fr 1
      have cel20:=L.tl.tl.b0.c20
      have f20:=L.tl.tl.b0.fr 0
      have cel21:=L.tl.tl.b0.c21
      have f21:=L.tl.tl.b0.fr 1
      go_wp2_with fail
      go_roundw
      case rel => exact ⟨t + 1, a, A, cc, a2, A2, c2, by go_num, by omega, L.twoZ (by simp) (by simp) (by simp) (by simp), Lib.hid (HF.out.step HP.out (List.mem_of_getElem? HP.out) HF.out.2.1 (Int.le_of_lt (J1.out.1 y1)) (Int.le_refl _) (Int.le_refl _) (Int.not_lt.1 (fun h => absurd (J2.out.2 h) (by omega))))⟩
      case measure => simp [intOf]; omega
    ·have t1 : decide (x1 < 0) = false:=decide_eq_false y1
     have cel00:=L.b0.c20
     have f00:=L.b0.fr 0
     have cel01:=L.b0.c21
     have f01:=L.b0.fr 1
     have cel20:=L.tl.tl.b0.c20
     have cel21:=L.tl.tl.b0.c21
     go_wp2_with fail
     refine (C2.out _ _ _ (L.getZ (v:=.agg #[.bool (ng a), .slice A (zl a) cc]) (x:=a) (by simp)) (L.getZ (v:=.agg #[.bool (ng a2), .slice A2 (zl a2) c2]) (x:=a2) (by simp))).mono ?_
     rintro e w22 ⟨rfl, be⟩
     replace L:=L.step be
     clear be
     by_cases y2 : 0 < x2
     ·have t2 : decide (0 < x2) = true:=decide_eq_true y2
      have cel00:=L.b0.c20
      have f00:=L.b0.fr 0
      have cel01:=L.b0.c21
      have f01:=L.b0.fr 1
      have cel20:=L.tl.tl.b0.c20
      have f20:=L.tl.tl.b0.fr 0
      have cel21:=L.tl.tl.b0.c21
      have f21:=L.tl.tl.b0.fr 1
      have P:=(L.pull2.putZ hg6 (by simp [n1, n2, n3, Ne.symm n1, Ne.symm n2, Ne.symm n3]) (ng a) A (zl a) cc)
      unfold put2 at P
      replace L:=P
      go_wp2_with fail
      go_roundw
      case rel => exact ⟨t + 1, a1, A1, c1, a, A, cc, by go_num, by omega, L.twoZ (by simp) (by simp) (by simp) (by simp), Lib.hid (HF.out.step HP.out HF.out.1 (List.mem_of_getElem? HP.out) (Int.le_refl _) (Int.not_lt.1 (fun h => absurd (J1.out.2 h) (by omega))) (Int.le_of_lt (J2.out.1 y2)) (Int.le_refl _))⟩
      case measure => simp [intOf]; omega
     ·have t2 : decide (0 < x2) = false:=decide_eq_false y2
      have cel00:=L.b0.c20
      have f00:=L.b0.fr 0
      have cel01:=L.b0.c21
      have f01:=L.b0.fr 1
      have cel20:=L.tl.tl.b0.c20
      have f20:=L.tl.tl.b0.fr 0
      have cel21:=L.tl.tl.b0.c21
      have f21:=L.tl.tl.b0.fr 1
      go_wp2_with fail
      go_roundw
      case rel => exact ⟨t + 1, a1, A1, c1, a2, A2, c2, by go_num, by omega, L.twoZ (by simp) (by simp) (by simp) (by simp), Lib.hid (HF.out.step HP.out HF.out.1 HF.out.2.1 (Int.le_refl _) (Int.not_lt.1 (fun h => absurd (J1.out.2 h) (by omega))) (Int.le_refl _) (Int.not_lt.1 (fun h => absurd (J2.out.2 h) (by omega))))⟩
      case measure => simp [intOf]; omega

theorem rowZ_2 {w : World} {g : Nat} {a b : Int} {c d : Nat} {A B : Option Addr} (hv : Var w g 24 #[.bool (ng a), .slice A (zl a) c, .bool (ng b), .slice B (zl b) d]) (h1 : IsN w (.slice A (zl a) c) a.natAbs) (h2 : IsN w (.slice B (zl b) d) b.natAbs) : RowZ w (.slice (some ⟨g, 0, none⟩) 2 2) [a, b]:=by
  refine ⟨g, 2, rfl, hv.lt, fun j p hp => ?_⟩
  match j with
  | 0 =>
    obtain rfl : a = p:=by simpa using hp
    exact ⟨A, c, hv.cell 0, hv.cell 1, isZ_s h1⟩
  | 1 =>
    obtain rfl : b = p:=by simpa using hp
    exact ⟨B, d, hv.cell 2, hv.cell 3, isZ_s h2⟩
  | j + 2 => simp at hp
theorem lst_2 {a b : Int} (h : a ≤ b) : IsLstZ a [a, b]:=⟨by simp, fun p hp => by
 simp only [List.mem_cons, List.not_mem_nil, or_false] at hp
 rcases hp with rfl | rfl <;> omega⟩
theorem mst_2 {a b : Int} (h : a ≤ b) : IsMstZ b [a, b]:=⟨by simp, fun p hp => by
 simp only [List.mem_cons, List.not_mem_nil, or_false] at hp
 rcases hp with rfl | rfl <;> omega⟩

set_option maxHeartbeats 8000000 in
theorem s13over_any (a b n : Int) (vx : Value) (w : World) (hx : IsS w vx a b) (la : zl a ≤ 10000) (lb : zl b ≤ 10000) (hab : a ≤ b) (h1 : 1 ≤ n) (h2 : n ≤ 1000000) :
  Calls Tryz.prog 67 #[vx, .int .i64 n] w (RetSp w (a / n) (cdv b n)):=by
 obtain ⟨A, c, B, d, rfl, hn1, hn2⟩:=hx.form
 have L0:=((Lq.mk0 w).n hn2).n hn1
 have h3:=len_le1 (x:=n.natAbs) (by omega)
 have g0:=fun W => rzof_any n W (by omega) (by omega)
 have g1:=fun v u W (h : RowZ W v [a, b]) k => s13hull_any [a, b] a b n v u W h k (by simp) (by simp) (fun p hp => by
  simp only [List.mem_cons, List.not_mem_nil, or_false] at hp
  rcases hp with rfl | rfl <;> assumption) (lst_2 hab) (mst_2 hab) (show zl n ≤ 10000 from Nat.le_trans h3 (by omega)) (by omega)
 obtain ⟨x, hx⟩ : ∃ z, a / n = z:=⟨_, rfl⟩
 obtain ⟨y, hy⟩ : ∃ z, cdv b n = z:=⟨_, rfl⟩
 rw [hx, hy] at g1
 rw [hx, hy]
 have H0:=Lib.hid g0
 have H1:=Lib.hid g1
 clear g0 g1 hx hy h3 hn1 hn2 la lb hab
 go_enter Tryz.func67, Tryz.ntmps67
 go_wp2_with fail
 have L:=((L0.varS (w.heap.size) (by simp) (ng a) A (zl a) c (ng b) B (zl b) d).varS (w.heap.size + 1) (by simp) false none 0 0 false none 0 0)
 have LB:=L
 replace L:=L.drew
 have c00:=L.b0.c40
 have f00:=L.b0.fr 0
 have c01:=L.b0.c41
 have f01:=L.b0.fr 1
 have c02:=L.b0.c42
 have f02:=L.b0.fr 2
 have c03:=L.b0.c43
 have f03:=L.b0.fr 3
 have c10:=L.tl.b0.c40
 have c11:=L.tl.b0.c41
 have c12:=L.tl.b0.c42
 have c13:=L.tl.b0.c43
 go_region_held3 (fun w' => w'.cell? ⟨w.heap.size, 0, none⟩ = some (.bool (ng a)) ∧ w'.cell? ⟨w.heap.size, 1, none⟩ = some (.slice A (zl a) c) ∧ w'.cell? ⟨w.heap.size, 2, none⟩ = some (.bool (ng b)) ∧ w'.cell? ⟨w.heap.size, 3, none⟩ = some (.slice B (zl b) d)) (first | (with_reducible exact ⟨L.tl.b0.c40, L.tl.b0.c41, L.tl.b0.c42, L.tl.b0.c43⟩) | (with_reducible exact ⟨L.tl.tl.b0.c40, L.tl.tl.b0.c41, L.tl.tl.b0.c42, L.tl.tl.b0.c43⟩) | (have LN:=(LB.var (w.heap.size + 1 + 1) (by simp) 24 #[.bool (ng a), .slice A (zl a) c, .bool (ng b), .slice B (zl b) d] (plain4 _ _ _ _ _ _ _ _)).drew; with_reducible exact ⟨LN.tl.tl.b0.c40, LN.tl.tl.b0.c41, LN.tl.tl.b0.c42, LN.tl.tl.b0.c43⟩) | (have LN:=L.var _ rfl 24 #[.bool (ng a), .slice A (zl a) c, .bool (ng b), .slice B (zl b) d] (plain4 _ _ _ _ _ _ _ _); with_reducible exact ⟨LN.tl.tl.b0.c40, LN.tl.tl.b0.c41, LN.tl.tl.b0.c42, LN.tl.tl.b0.c43⟩) | (have LP:=L.swap.putS (by omega) (by first | (simp; done) | (simp; omega)) (ng x) A8 (zl x) c8 (ng y) B8 (zl y) d8; unfold put4 at LP; with_reducible exact ⟨LP.tl.tl.b0.c40, LP.tl.tl.b0.c41, LP.tl.tl.b0.c42, LP.tl.tl.b0.c43⟩)) (first | (go_at_call 53; (with_reducible refine (H0.out _).mono ?_); rintro e wh ⟨vh, rfl, iz, be⟩; (first | (replace L:=((LB.var (w.heap.size + 1 + 1) (by simp) 24 #[.bool (ng a), .slice A (zl a) c, .bool (ng b), .slice B (zl b) d] (plain4 _ _ _ _ _ _ _ _)).drew).step be) | (replace L:=(L.var _ rfl 24 #[.bool (ng a), .slice A (zl a) c, .bool (ng b), .slice B (zl b) d] (plain4 _ _ _ _ _ _ _ _)).step be) | (replace L:=L.step be)); obtain ⟨A7, c7, rfl, in9⟩:=iz.form; replace L:=L.n in9; clear be iz in9; (first | (have x00:=L.tl.b0.c40; have y00:=L.tl.b0.fr 0; have x01:=L.tl.b0.c41; have y01:=L.tl.b0.fr 1; have x02:=L.tl.b0.c42; have y02:=L.tl.b0.fr 2; have x03:=L.tl.b0.c43; have y03:=L.tl.b0.fr 3) | (have x00:=L.b0.c40; have y00:=L.b0.fr 0; have x01:=L.b0.c41; have y01:=L.b0.fr 1; have x02:=L.b0.c42; have y02:=L.b0.fr 2; have x03:=L.b0.c43; have y03:=L.b0.fr 3) | skip)) | (go_at_call 122; have hl9:=L.b0.lt; have LN:=L.var _ rfl 24 #[.bool (ng a), .slice A (zl a) c, .bool (ng b), .slice B (zl b) d] (plain4 _ _ _ _ _ _ _ _); (with_reducible refine (H1.out _ _ _ ?_ ?_).mono ?_); (· (refine rowZ_2 LN.b0 (LN.getN ?_) (LN.getN ?_) <;> (repeat (first | (with_reducible exact List.mem_cons_self) | apply List.mem_cons_of_mem)))); (· (refine isZ_s (LN.getN ?_); (repeat (first | (with_reducible exact List.mem_cons_self) | apply List.mem_cons_of_mem)))); rintro e wh ⟨vh, rfl, iq, be⟩; obtain ⟨A8, c8, B8, d8, rfl, ia, ib⟩:=iq.form; replace L:=((LN.step be).n ib).n ia; clear be iq ia ib; (try (have x00:=L.tl.b0.c40; have y00:=L.tl.b0.fr 0; have x01:=L.tl.b0.c41; have y01:=L.tl.b0.fr 1; have x02:=L.tl.b0.c42; have y02:=L.tl.b0.fr 2; have x03:=L.tl.b0.c43; have y03:=L.tl.b0.fr 3))) | (go_at_call 122; (with_reducible refine (H1.out _ _ _ ?_ ?_).mono ?_); (· (refine rowZ_2 L.b0 (L.getN ?_) (L.getN ?_) <;> (repeat (first | (with_reducible exact List.mem_cons_self) | apply List.mem_cons_of_mem)))); (· (refine isZ_s (L.getN ?_); (repeat (first | (with_reducible exact List.mem_cons_self) | apply List.mem_cons_of_mem)))); rintro e wh ⟨vh, rfl, iq, be⟩; obtain ⟨A8, c8, B8, d8, rfl, ia, ib⟩:=iq.form; replace L:=((L.step be).n ib).n ia; clear be iq ia ib; (try (have x00:=L.tl.b0.c40; have y00:=L.tl.b0.fr 0; have x01:=L.tl.b0.c41; have y01:=L.tl.b0.fr 1; have x02:=L.tl.b0.c42; have y02:=L.tl.b0.fr 2; have x03:=L.tl.b0.c43; have y03:=L.tl.b0.fr 3))))
 clear c00 f00 c01 f01 c02 f02 c03 f03 c10 c11 c12 c13
 all_goals
  go_wp2_with fail
  replace L:=L.swap
  have LP:=L.putS (by omega) (by first | (simp; done) | (simp; omega)) (ng x) A8 (zl x) c8 (ng y) B8 (zl y) d8
  have k0:=LP.b0.c40
  have k1:=LP.b0.c41
  have k2:=LP.b0.c42
  have k3:=LP.b0.c43
  unfold put4 at k0 k1 k2 k3
  exact bodyPost_ret (v:=.agg #[.bool (ng x), .slice A8 (zl x) c8, .bool (ng y), .slice B8 (zl y) d8]) (by simp [results, Tryz.results67, go_sem, k0, k1, k2, k3]) rfl ⟨_, rfl, isS_n (LP.getN (by simp)) (LP.getN (by simp)), LP.below⟩


end Go.Proofs.YtnnfldkllhdhjaaGreatDoor
