/- What RadicalPoints asks of a number of the interval, all at once. -/
import Derived.Test.YthfabjpbdgieoaaGreatDoorRdU
import Derived.Test.YthfabjpbdgieoaaGreatDoorRdS
namespace Go.Proofs.YthfabjpbdgieoaaGreatDoor
open Go.RowKit
set_option linter.unusedVariables false
set_option linter.unusedSimpArgs false
set_option maxRecDepth 100000
attribute [local go_sem ↓] Go.wp_at_zero Go.wp_at_succ

theorem mkE_ge9 (C e : Int) : min e 0 ≤ mkE C e := by
  unfold mkE oddE
  (repeat' split) <;> omega
theorem has12 {M E N G a : Int} {d : Nat} {q : Rat} (hd : 0 < d) (hq : Rat.divInt a (d : Int) = q) (h1 : dq M E ≤ q) (h2 : q ≤ dq N G) : hasB M E N G a d = true := by
  rw [hasB_iff _ _ _ _ _ _ hd, hq]
  exact ⟨h1, h2⟩
set_option maxHeartbeats 2000000 in
theorem point_ok {m e n f j k M1 E1 N1 G1 r1 mc ec : Int} (hd : dcm m e n f ≤ 0) (hb1 : Bd (dq m e) 198) (hb2 : Bd (dq n f) 198) (hj : -6 ≤ j ∧ j ≤ 6) (hk : 0 ≤ k ∧ k ≤ 200) (b1 : zl M1 ≤ 400 ∧ (-10000 ≤ E1 ∧ E1 ≤ 10000)) (b2 : zl N1 ≤ 400 ∧ (-10000 ≤ G1 ∧ G1 ≤ 10000)) (h1 : r1 = 0 → ¬ (j < 0 ∧ sgB m n = true ∧ sgV m n = 0) ∧ ¬ (j < 0 ∧ sgB m n = false) ∧ dq M1 E1 ≤ plo (sgB m n) (dq m e) (dq n f) j ∧ phi (sgB m n) (dq m e) (dq n f) j ≤ dq N1 G1)
    (hc1 : dq m e ≤ dq mc ec) (hc2 : dq mc ec ≤ dq n f) (lc : zl mc ≤ 40) (hec : -64 ≤ ec ∧ ec ≤ 2880) (hv : Dv mc ec) :
    ∃ (a1 : Int) (d1 : Nat) (a2 : Int) (d2 : Nat) (e2 S F M2 E2 N2 G2 a3 : Int) (d3 : Nat),
      (∀ v W, IsD W v mc ec → Calls Tryz.prog 32 #[v] W (RetP W a1 d1)) ∧
      (∀ v W, IsP W v a1 d1 → Calls Tryz.prog 31 #[v, .int .i64 j] W (RetPE W a2 d2 e2)) ∧
      (r1 = 0 → e2 = 0 ∧ ∀ v u W, IsI W v M1 E1 N1 G1 → IsP W u a2 d2 → Calls Tryz.prog 33 #[v, u] W (RetB W true)) ∧
      (∀ v u W, IsD W v mc ec → IsD W u mc ec → Calls Tryz.prog 22 #[v, u] W (RetDE W S F 0)) ∧
      (∀ v W, IsI W v S F S F → Tab W → Calls Tryz.prog 13 #[v, .int .i64 k] W (RetIE W M2 E2 N2 G2 0)) ∧
      (∀ v W, IsD W v mc ec → Calls Tryz.prog 10 #[v] W (RetD8 W (-mc) ec)) ∧
      (∀ v W, IsD W v ((mc.natAbs : Nat) : Int) ec → Calls Tryz.prog 32 #[v] W (RetP W a3 d3)) ∧
      (∀ v u W, IsI W v M2 E2 N2 G2 → IsP W u a3 d3 → Calls Tryz.prog 33 #[v, u] W (RetB W true)) := by
  have hwk : workB k = true := work_small hk.1 hk.2
  have hbc := bd_between hb1 hb2 hc1 hc2
  have x1 := zl_two mc ec.toNat
  have y1 := len_two (-ec).toNat
  have z1 := two_pos8 (-ec).toNat
  have R1 := fun v W h => rrat8_any mc ec v W h (by omega) (by omega)
  have hpj : powB j = true := by unfold powB; rw [decide_eq_true (show -64 ≤ j by omega), decide_eq_true (show j ≤ 64 by omega)]; rfl
  have pb := pb_of hv hbc hec.1 (by omega) hpj
  -- the square and its root
  have zq := zl_mul mc mc
  have sr := mk_fits4 (m := mc * mc) (e := ec + ec) (by omega) (by omega) (by omega)
  have sz := zl_mk (mc * mc) (ec + ec)
  have se := mkE_le (m := mc * mc) (e := ec + ec) (K := 5760) (by omega) (by omega)
  have sv : dq (mkM (mc * mc) (ec + ec)) (mkE (mc * mc) (ec + ec)) = dq mc ec * dq mc ec := by rw [dq_mk sr, dq_mul]
  have sn := mk_nn sr (by rw [← Int.natAbs_mul_self' mc]; exact Int.natCast_nonneg _ : 0 ≤ mc * mc)
  have gm := fun v u W h1 h2 => rmul8_any mc ec mc ec v u W h1 h2 (by omega) (by omega) (by omega) (by omega)
  rw [sr] at gm
  have sd := mk_ok sr
  obtain ⟨S, hS⟩ : ∃ z, mkM (mc * mc) (ec + ec) = z := ⟨_, rfl⟩
  obtain ⟨F, hF⟩ : ∃ z, mkE (mc * mc) (ec + ec) = z := ⟨_, rfl⟩
  rw [hS, hF] at gm sv sd
  rw [hS] at sn sz
  rw [hF] at se
  obtain ⟨M2, E2, N2, G2, fx, c1, c2, _, _, q1, q2, _⟩ := RetSr.sure (m := S) (e := F) (n := S) (f := F) (k := k) (i := 198) (by omega) (by omega) (by omega) (by omega) sn sn Rat.le_refl (by rw [sv]; exact (sq_bd hbc).2) (by omega) hwk
  have gs := fun v W h hT => dsqrt_any S F S F k v W h (by omega) (by omega) (by omega) (by omega) sd sd (by omega) (by omega) hT
  simp only [fx] at gs
  have gn := fun v W h => rneg8_any mc ec v W h (by omega)
  -- the absolute value
  have hab : dq ((mc.natAbs : Nat) : Int) ec * dq ((mc.natAbs : Nat) : Int) ec = dq S F := by
    rw [sv, ← dq_mul, ← dq_mul, Int.natAbs_mul_self']
  have rh := root_has (dq_nn ec (Int.natCast_nonneg mc.natAbs)) hab k
  rw [← q1, ← q2] at rh
  have za := zl_abs mc
  have R3 := fun v W h => rrat8_any ((mc.natAbs : Nat) : Int) ec v W h (by omega) (by omega)
  have x3 := zl_two ((mc.natAbs : Nat) : Int) ec.toNat
  have H3 := fun v u W h1 h2 => r10has_any M2 E2 N2 G2 (((mc.natAbs : Nat) : Int) * 2 ^ ec.toNat) (2 ^ (-ec).toNat) v u W h1 h2 (by omega) (by omega) (by omega) (by omega) (by omega) (by omega)
  rw [has12 z1 (q := dq ((mc.natAbs : Nat) : Int) ec) rfl rh.1 rh.2] at H3
  by_cases hz : j < 0 ∧ mc = 0
  · obtain ⟨hj0, hmc⟩ := hz
    have hzero : mc * 2 ^ ec.toNat = 0 := by rw [hmc, Int.zero_mul]
    refine ⟨mc * 2 ^ ec.toNat, 2 ^ (-ec).toNat, 0, 0, 2, S, F, M2, E2, N2, G2, _, _, R1, fun v W h => ?_, fun h => ?_, gm, gs, gn, R3, H3⟩
    · rw [hzero] at h
      exact rpow7_zero (-j).toNat _ j (by omega) v W h (by rw [zl_zero]; omega) (by omega) (by omega) (by omega) z1
    · exfalso
      obtain ⟨k1, k2, _⟩ := h1 h
      obtain ⟨_, s2⟩ := sg_cases hd
      rw [hmc, dq_zero] at hc1 hc2
      cases hs : sgB m n
      · exact k2 ⟨hj0, hs⟩
      · have hne : sgV m n ≠ 0 := fun h => k1 ⟨hj0, hs, h⟩
        rcases (s2 hs).2 hne with h | h
        · exact Rat.not_le.2 h hc1
        · exact Rat.not_le.2 h hc2
  · obtain ⟨a2, d2, o1, o2, o3, o4, P⟩ := rpow_pair hv pb (fun h hm => hz ⟨h, hm⟩)
    refine ⟨mc * 2 ^ ec.toNat, 2 ^ (-ec).toNat, a2, d2, 0, S, F, M2, E2, N2, G2, _, _, R1, P, fun h => ⟨rfl, fun v u W i1 i2 => ?_⟩, gm, gs, gn, R3, H3⟩
    obtain ⟨k1, k2, k3, k4⟩ := h1 h
    obtain ⟨s1, s2⟩ := sg_cases hd
    have im := image_in (s := sgB m n) (a := dq m e) (b := dq n f) (x := dq mc ec) (n := j) (fun hs => by
      by_cases h0 : sgV m n = 0
      · obtain ⟨e1, _⟩ := (s2 hs).1 h0
        rw [e1]; exact Or.inl Rat.le_refl
      · rcases (s2 hs).2 h0 with h | h
        · exact Or.inl (Rat.le_of_lt h)
        · exact Or.inr (Rat.le_of_lt h)) (fun hs => Int.not_lt.1 (fun h0 => k2 ⟨h0, hs⟩)) (fun h0 => by
      cases hs : sgB m n
      · exact absurd ⟨h0, hs⟩ k2
      · exact (s2 hs).2 (fun h => k1 ⟨h0, hs, h⟩)) hc1 hc2
    have hh := has12 o1 o4 (Rat.le_trans k3 im.1) (Rat.le_trans im.2 k4)
    have := r10has_any M1 E1 N1 G1 a2 d2 v u W i1 i2 (by omega) (by omega) (by omega) (by omega) (by omega) (by omega)
    rwa [hh] at this


end Go.Proofs.YthfabjpbdgieoaaGreatDoor
