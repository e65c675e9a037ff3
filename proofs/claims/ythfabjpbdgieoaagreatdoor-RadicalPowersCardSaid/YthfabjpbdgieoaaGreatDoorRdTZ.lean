/- What the laws of layer 12 lean on: of; roots and powers as four numbers and an error; which results are sure. -/
import Derived.Test.YthfabjpbdgieoaaGreatDoorRdPBZ
import Derived.Test.YthfabjpbdgieoaaGreatDoorRdPEZ
import Derived.Test.YthfabjpbdgieoaaGreatDoorMillArZ
import Derived.Test.YthfabjpbdgieoaaGreatDoorBaseWZ
import Derived.Deep.RegionHeld3
import Derived.Deep.DrawnRows
namespace Go.Proofs.YthfabjpbdgieoaaGreatDoor
open Go.RowKit
set_option linter.unusedVariables false
set_option linter.unusedSimpArgs false
set_option maxRecDepth 100000
attribute [local go_sem ↓] Go.wp_at_zero Go.wp_at_succ

set_option maxHeartbeats 4000000 in
theorem of12_any (a b : Int) (w : World) (h1 : -1000 ≤ a ∧ a ≤ 1000) (h2 : -1000 ≤ b ∧ b ≤ 1000) :
    Calls Tryz.prog 29 #[.int .i64 a, .int .i64 b] w (RetI6 w (mkM a 0) (mkE a 0) (mkM b 0) (mkE b 0)) := by
  have HA := Lib.hid (fun W => rof8_any a W (by omega) (by omega))
  have HB := Lib.hid (fun W => rof8_any b W (by omega) (by omega))
  generalize mkM a 0 = m at *
  generalize mkE a 0 = e at *
  generalize mkM b 0 = n at *
  generalize mkE b 0 = f at *
  clear h1 h2
  go_enter Tryz.func29, Tryz.ntmps29
  go_wp2_with fail
  have L := ((Lq.mk0 w).varI (w.heap.size) (by simp) false none 0 0 0 false none 0 0 0)
  have c00 := L.b0.c60
  have f00 := L.b0.fr 0
  have c01 := L.b0.c61
  have f01 := L.b0.fr 1
  have c02 := L.b0.c62
  have f02 := L.b0.fr 2
  have c03 := L.b0.c63
  have f03 := L.b0.fr 3
  have c04 := L.b0.c64
  have f04 := L.b0.fr 4
  have c05 := L.b0.c65
  have f05 := L.b0.fr 5
  (try go_wp2_with fail)
  refine (HA.out _).mono ?_
  rintro e w1 ⟨v1, rfl, id, be⟩
  clear c00 f00 c01 f01 c02 f02 c03 f03 c04 f04 c05 f05
  obtain ⟨A, c, rfl, _, in9⟩ := id.form
  replace L := (L.step be).n in9
  clear be id in9
  have c00 := L.b0.c60
  have f00 := L.b0.fr 0
  have c01 := L.b0.c61
  have f01 := L.b0.fr 1
  have c02 := L.b0.c62
  have f02 := L.b0.fr 2
  have c03 := L.b0.c63
  have f03 := L.b0.fr 3
  have c04 := L.b0.c64
  have f04 := L.b0.fr 4
  have c05 := L.b0.c65
  have f05 := L.b0.fr 5
  (try go_wp2_with fail)
  refine (HB.out _).mono ?_
  rintro e w2 ⟨v2, rfl, id, be⟩
  clear c00 f00 c01 f01 c02 f02 c03 f03 c04 f04 c05 f05
  obtain ⟨B, d, rfl, _, in9⟩ := id.form
  replace L := (L.step be).n in9
  clear be id in9
  have c00 := L.b0.c60
  have f00 := L.b0.fr 0
  have c01 := L.b0.c61
  have f01 := L.b0.fr 1
  have c02 := L.b0.c62
  have f02 := L.b0.fr 2
  have c03 := L.b0.c63
  have f03 := L.b0.fr 3
  have c04 := L.b0.c64
  have f04 := L.b0.fr 4
  have c05 := L.b0.c65
  have f05 := L.b0.fr 5
  (try go_wp2_with fail)
  have LP := L.putI (by omega) (by first | (simp; done) | (simp; omega)) (ng m) A (zl m) c e (ng n) B (zl n) d f
  have k0 := LP.b0.c60
  have k1 := LP.b0.c61
  have k2 := LP.b0.c62
  have k3 := LP.b0.c63
  have k4 := LP.b0.c64
  have k5 := LP.b0.c65
  unfold put6 at k0 k1 k2 k3 k4 k5
  exact bodyPost_ret (v := .agg #[.bool (ng m), .slice A (zl m) c, .int .i64 e, .bool (ng n), .slice B (zl n) d, .int .i64 f]) (by simp [results, Tryz.results29, go_sem, k0, k1, k2, k3, k4, k5]) rfl ⟨_, rfl, isI_n (LP.getN (by simp)) (LP.getN (by simp)), LP.below⟩
theorem RetSf.fix {m e : Int} (k : Int) : ∃ M E er : Int, (∀ W, RetSf W m e k = RetDE W M E er) := by
  unfold RetSf
  by_cases h1 : workB k = true
  · by_cases h2 : m < 0
    · exact ⟨0, 0, 4, fun W => by rw [if_pos h1, if_pos h2]⟩
    · exact ⟨_, _, 0, fun W => by rw [if_pos h1, if_neg h2]⟩
  · exact ⟨0, 0, 1, fun W => by rw [if_neg h1]⟩
theorem RetSc.fix {m e : Int} (k : Int) : ∃ M E er : Int, (∀ W, RetSc W m e k = RetDE W M E er) := by
  unfold RetSc
  by_cases h1 : workB k = true
  · by_cases h2 : m < 0
    · exact ⟨0, 0, 4, fun W => by rw [if_pos h1, if_pos h2]⟩
    · exact ⟨_, _, 0, fun W => by rw [if_pos h1, if_neg h2]⟩
  · exact ⟨0, 0, 1, fun W => by rw [if_neg h1]⟩
theorem RetSr.fix {m e n f : Int} (lm : zl m ≤ 400) (ln : zl n ≤ 400) (he : -10000 ≤ e ∧ e ≤ 10000) (hf : -10000 ≤ f ∧ f ≤ 10000) (k : Int) : ∃ M E N G er : Int, (∀ W, RetSr W m e n f k = RetIE W M E N G er) ∧ (zl M ≤ 400 ∧ (-10000 ≤ E ∧ E ≤ 10000)) ∧ (zl N ≤ 400 ∧ (-10000 ≤ G ∧ G ≤ 10000)) := by
  have z0 : zl 0 ≤ 400 ∧ (-10000 ≤ (0 : Int) ∧ (0 : Int) ≤ 10000) := ⟨by rw [zl_zero]; omega, by omega, by omega⟩
  unfold RetSr
  by_cases h1 : workB k = true
  · by_cases h2 : n < 0
    · exact ⟨0, 0, 0, 0, 4, fun W => by rw [if_pos h1, if_pos h2], z0, z0⟩
    · by_cases h3 : m < 0
      · exact ⟨0, 0, 0, 0, 5, fun W => by rw [if_pos h1, if_neg h2, if_pos h3], z0, z0⟩
      · by_cases h4 : smS m e n f k = true
        · obtain ⟨_, _, _, _, _, s5, _⟩ := sq_size lm he (Int.not_lt.1 h3) h1
          obtain ⟨_, _, _, _, _, _, r6⟩ := sq_size ln hf (Int.not_lt.1 h2) h1
          obtain ⟨b1, b2, _⟩ := small_ends h4 (mk_ok s5) (mk_ok r6)
          exact ⟨_, _, _, _, 0, fun W => by rw [if_pos h1, if_neg h2, if_neg h3, if_pos h4], b1, b2⟩
        · exact ⟨0, 0, 0, 0, 3, fun W => by rw [if_pos h1, if_neg h2, if_neg h3, if_neg h4], z0, z0⟩
  · exact ⟨0, 0, 0, 0, 1, fun W => by rw [if_neg h1], z0, z0⟩
theorem RetPw.fix (m e n f j k : Int) : ∃ M E N G er : Int, (∀ W, RetPw W m e n f j k = RetIE W M E N G er) ∧ (zl M ≤ 400 ∧ (-10000 ≤ E ∧ E ≤ 10000)) ∧ (zl N ≤ 400 ∧ (-10000 ≤ G ∧ G ≤ 10000)) ∧ (er = 0 → ¬ (j < 0 ∧ sgB m n = true ∧ sgV m n = 0) ∧ ¬ (j < 0 ∧ sgB m n = false) ∧ dq M E ≤ plo (sgB m n) (dq m e) (dq n f) j ∧ phi (sgB m n) (dq m e) (dq n f) j ≤ dq N G) := by
  have z0 : zl 0 ≤ 400 ∧ (-10000 ≤ (0 : Int) ∧ (0 : Int) ≤ 10000) := ⟨by rw [zl_zero]; omega, by omega, by omega⟩
  unfold RetPw
  by_cases h1 : (workB k && powB j) = true
  · by_cases h2 : j < 0 ∧ sgB m n = true ∧ sgV m n = 0
    · exact ⟨0, 0, 0, 0, 2, fun W => by rw [if_pos h1, if_pos h2], z0, z0, fun h => absurd h (by decide)⟩
    · by_cases h3 : j < 0 ∧ sgB m n = false
      · exact ⟨0, 0, 0, 0, 5, fun W => by rw [if_pos h1, if_neg h2, if_pos h3], z0, z0, fun h => absurd h (by decide)⟩
      · obtain ⟨M, E, N, G, er, fx, b1, b2, hok, _, _⟩ := RetEn.fix (plo (sgB m n) (dq m e) (dq n f) j) (phi (sgB m n) (dq m e) (dq n f) j) k
        refine ⟨M, E, N, G, er, fun W => by rw [if_pos h1, if_neg h2, if_neg h3]; exact fx W, b1, b2, fun h => ?_⟩
        obtain ⟨_, x1, x2, rfl, rfl, rfl, rfl⟩ := hok h
        exact ⟨h2, h3, en_lo x1, up_hi x2⟩
  · exact ⟨0, 0, 0, 0, 1, fun W => by rw [if_neg h1], z0, z0, fun h => absurd h (by decide)⟩
theorem bd_dq {m e : Int} {k i : Nat} (lm : zl m ≤ k) (he : e + 32 * (k : Int) ≤ (i : Int)) : Bd (dq m e) i := by
  have h1 : m.natAbs ≤ 2 ^ (32 * k) := by
    have h2 : len m.natAbs ≤ k := lm
    rw [len_le_iff, W32_pow] at h2
    omega
  have h3 : dq 1 (e + ((32 * k : Nat) : Int)) ≤ dq 1 (i : Int) := dq1_mono (by omega)
  have h4 : dq ((2 ^ (32 * k) : Nat) : Int) e = dq 1 (e + ((32 * k : Nat) : Int)) := dq_shl1 _ _
  have h5 : dq m e ≤ dq ((2 ^ (32 * k) : Nat) : Int) e := (dq_le_iff _ _ _).2 (by omega)
  have h6 : dq (-((2 ^ (32 * k) : Nat) : Int)) e ≤ dq m e := (dq_le_iff _ _ _).2 (by omega)
  rw [dq_neg] at h6
  rw [h4] at h5 h6
  exact ⟨Rat.le_trans (Rat.neg_le_neg h3) h6, Rat.le_trans h5 h3⟩
theorem pb_small {m e j : Int} (lm : zl m ≤ 3) (he : -10 ≤ e ∧ e ≤ 110) (hj : powB j = true) : PB m e j := by
  unfold powB at hj
  rw [Bool.and_eq_true, decide_eq_true_iff, decide_eq_true_iff] at hj
  refine ⟨by omega, by omega, hj, ?_⟩
  have h1 : zl m + (e.natAbs / 32 + 1) ≤ 7 := by omega
  have h2 : j.natAbs ≤ 64 := by omega
  exact Nat.le_trans (Nat.mul_le_mul h1 h2) (by omega)
theorem small_of {m e n f : Int} (lm : zl m ≤ 6) (ln : zl n ≤ 6) (he : -60 ≤ e ∧ e ≤ 252) (hf : -60 ≤ f ∧ f ≤ 252) (hd : dcm m e n f ≤ 0) : smallB m e n f = true := by
  have hb := (dcm_le _ _ _ _).1 hd
  have o : ∀ {m e : Int}, -60 ≤ e → onB m e 8192 = true := fun h => by
    unfold onB
    rw [show permB 8192 = true from by decide, Bool.true_and, decide_eq_true (show -8192 ≤ _ by omega), Bool.or_true]
  rw [small_iff (o he.1) (o hf.1) hb]
  exact ⟨bd_top (bd_dq (k := 6) (i := 444) lm (by omega)) (by omega), bd_top (bd_dq (k := 6) (i := 444) ln (by omega)) (by omega)⟩
theorem of_1 : mkM 1 0 = 1 ∧ mkE 1 0 = 0 := mk_odd11 (M := 1) (z := 0) (by decide) (by decide) (by decide) (by decide) (by decide)
theorem of_2 : mkM 2 0 = 1 ∧ mkE 2 0 = 1 := mk_odd11 (M := 1) (z := 1) (by decide) (by decide) (by decide) (by decide) (by decide)
theorem of_4 : mkM 4 0 = 1 ∧ mkE 4 0 = 2 := mk_odd11 (M := 1) (z := 2) (by decide) (by decide) (by decide) (by decide) (by decide)
theorem of_m1 : mkM (-1) 0 = -1 ∧ mkE (-1) 0 = 0 := mk_odd11 (M := -1) (z := 0) (by decide) (by decide) (by decide) (by decide) (by decide)
theorem of_m2 : mkM (-2) 0 = -1 ∧ mkE (-2) 0 = 1 := mk_odd11 (M := -1) (z := 1) (by decide) (by decide) (by decide) (by decide) (by decide)
theorem mk_2h : mkM 2 (-1) = 1 ∧ mkE 2 (-1) = 0 := mk_odd11 (M := 1) (z := 1) (by decide) (by decide) (by decide) (by decide) (by decide)
theorem mk_3h : mkM 3 (-1) = 3 ∧ mkE 3 (-1) = -1 := mk_odd11 (M := 3) (z := 0) (by decide) (by decide) (by decide) (by decide) (by decide)
theorem dq_leD {m e n f : Int} (h : dcm m e n f ≤ 0) : dq m e ≤ dq n f := (dcm_le _ _ _ _).1 h
theorem sqR_ex : sqR (dq 1 1) 1 = 2 := by
  unfold sqR
  rw [show cutQ (dq 1 1) (2 * 1) = 1 * 2 ^ 3 from cutD_up 3 (by decide)]
  rw [show (1 * 2 ^ 3 : Int).natAbs = 8 from rfl, rt_unique (k := 2) (a := 8) (r := 2) (by decide) (by decide) (by decide)]
  rfl
theorem sqU_ex : sqU (dq 1 1) 1 = 3 := by
  unfold sqU
  rw [sqR_ex, ← dq_mul, if_neg]
  · rfl
  · intro h
    have := (dcm_zero_iff _ _ _ _).2 h
    revert this
    decide
theorem ex_sqrt (W : World) : RetSr W 1 1 1 1 1 = RetIE W 1 0 3 (-1) 0 := by
  have h : smS 1 1 1 1 1 = true := by
    unfold smS
    rw [sqR_ex, sqU_ex, mk_2h.1, mk_2h.2, mk_3h.1, mk_3h.2]
    decide
  unfold RetSr
  rw [if_pos (by decide), if_neg (by decide), if_neg (by decide), if_pos h, sqR_ex, sqU_ex, mk_2h.1, mk_2h.2, mk_3h.1, mk_3h.2]
theorem ex_unknown (W : World) : RetSr W (-1) 0 1 0 1 = RetIE W 0 0 0 0 5 := by
  unfold RetSr
  rw [if_pos (by decide), if_neg (by decide), if_pos (by decide)]
theorem ex_domain (W : World) : RetSr W (-1) 1 (-1) 0 1 = RetIE W 0 0 0 0 4 := by
  unfold RetSr
  rw [if_pos (by decide), if_pos (by decide)]
theorem ex_im : plo false (dq (-1) 0) (dq 1 1) 2 = dq 0 0 ∧ phi false (dq (-1) 0) (dq 1 1) 2 = dq 1 2 := by
  have e1 : dq (-1) 0 * dq (-1) 0 = dq 1 0 := by rw [← dq_mul]; rfl
  have e2 : dq 1 1 * dq 1 1 = dq 1 2 := by rw [← dq_mul]; rfl
  have e3 : (0 : Rat) * 0 = dq 0 0 := by rw [dq_zero]; exact Rat.mul_zero 0
  unfold plo phi
  rw [if_neg (by decide), if_neg (by decide), pw_two, pw_two, pw_two, e1, e2, e3]
  constructor
  · exact Rat.le_antisymm (Rat.le_trans (rmin_l _ _) (rmin_r _ _)) (le_rmin (le_rmin (dq_leD (by decide)) Rat.le_refl) (dq_leD (by decide)))
  · exact Rat.le_antisymm (rmax_le (rmax_le (dq_leD (by decide)) (dq_leD (by decide))) Rat.le_refl) (rmax_r _ _)
theorem ex_power (W : World) : RetPw W (-1) 0 1 1 2 0 = RetIE W 0 0 1 2 0 := by
  unfold RetPw
  rw [if_pos (by decide), if_neg (by decide), if_neg (by decide), show sgB (-1) 1 = false from by decide, ex_im.1, ex_im.2]
  have z4 : zl 4 ≤ 6 := zl_small (by decide)
  have c1 : cutQ (dq 0 0) 0 = 0 := by have := cutD_up (m := 0) (e := 0) (p := 0) 0 (by decide); rwa [Int.zero_mul] at this
  have c2 : -(cutQ (-(dq 1 2)) 0) = 4 := by
    rw [← dq_neg, show cutQ (dq (-1) 2) 0 = -1 * 2 ^ 2 from cutD_up 2 (by decide)]
    rfl
  rw [RetEn.ok (z := 6) (by decide) (by rw [c1, zl_zero]; omega) (by rw [c2]; omega) (by omega) (dq_leD (by decide)) W]
  unfold enM enE upM upE
  rw [c1, c2, show -(0 : Int) = 0 from rfl, of_0.1, of_0.2, of_4.1, of_4.2]


end Go.Proofs.YthfabjpbdgieoaaGreatDoor
