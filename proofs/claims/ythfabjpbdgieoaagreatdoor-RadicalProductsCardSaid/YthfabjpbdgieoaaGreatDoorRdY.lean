/- What RadicalProducts asks of an interval, all at once. -/
import Derived.Test.YthfabjpbdgieoaaGreatDoorRdU
import Derived.Test.YthfabjpbdgieoaaGreatDoorArPE
import Derived.Test.YthfabjpbdgieoaaGreatDoorBaseW
namespace Go.Proofs.YthfabjpbdgieoaaGreatDoor
open Go.RowKit
set_option linter.unusedVariables false
set_option linter.unusedSimpArgs false
set_option maxRecDepth 100000
attribute [local go_sem ↓] Go.wp_at_zero Go.wp_at_succ

theorem wide {E : Int} (h : -10000 ≤ E ∧ E ≤ 10000) : -20000 ≤ E ∧ E ≤ 20000 := by omega
theorem bd_prod {m e n f : Int} (lm : zl m ≤ 3) (ln : zl n ≤ 3) (he : e ≤ 102) (hf : f ≤ 102) : Bd (dq m e * dq n f) 400 := by
  rw [← dq_mul]
  have := zl_mul m n
  exact bd_dq (k := 6) (by omega) (by omega)
theorem bd_min4 {a b c d : Rat} {i : Nat} (h1 : Bd a i) (h2 : Bd b i) (h3 : Bd c i) (h4 : Bd d i) : Bd (min4 a b c d) i := by
  rcases min4_or a b c d with h | h | h | h <;> rw [h] <;> assumption
theorem bd_max4 {a b c d : Rat} {i : Nat} (h1 : Bd a i) (h2 : Bd b i) (h3 : Bd c i) (h4 : Bd d i) : Bd (max4 a b c d) i := by
  rcases max4_or a b c d with h | h | h | h <;> rw [h] <;> assumption
set_option maxHeartbeats 2000000 in
theorem prods_ok {m e n f k : Int} (lm : zl m ≤ 3) (ln : zl n ≤ 3) (he : -6 ≤ e ∧ e ≤ 102) (hf : -6 ≤ f ∧ f ≤ 102) (hv : Dv m e) (hv2 : Dv n f) (hd : dcm m e n f ≤ 0) (hk : 0 ≤ k ∧ k ≤ 60) : ∃ M1 E1 N1 G1 M2 E2 N2 G2 M3 E3 N3 G3 M4 E4 N4 G4 : Int,
    (∀ v W, IsI W v m e n f → Tab W → Calls Tryz.prog 27 #[v, .int .i64 2, .int .i64 k] W (RetIE W M1 E1 N1 G1 0)) ∧
    (∀ v u W, IsI W v m e n f → IsI W u m e n f → Tab W → Calls Tryz.prog 34 #[v, u, .int .i64 k] W (RetIE W M2 E2 N2 G2 0)) ∧
    (∀ v u W, IsI W v M1 E1 N1 G1 → IsI W u M2 E2 N2 G2 → Calls Tryz.prog 35 #[v, u] W (RetB W true)) ∧
    (∀ v W, IsI W v M1 E1 N1 G1 → Tab W → Calls Tryz.prog 13 #[v, .int .i64 k] W (RetIE W M3 E3 N3 G3 0)) ∧
    (∀ v W, IsI W v M3 E3 N3 G3 → Tab W → Calls Tryz.prog 27 #[v, .int .i64 2, .int .i64 k] W (RetIE W M4 E4 N4 G4 0)) ∧
    (∀ v u W, IsI W v M1 E1 N1 G1 → IsI W u M4 E4 N4 G4 → Calls Tryz.prog 35 #[v, u] W (RetB W true)) := by
  have hwk : workB k = true := work_small hk.1 (by omega)
  have hle := (dcm_le _ _ _ _).1 hd
  have x1 : Bd (dq m e) 198 := bd_dq (k := 3) (by omega) (by omega)
  have x2 : Bd (dq n f) 198 := bd_dq (k := 3) (by omega) (by omega)
  -- the square
  obtain ⟨M1, E1, N1, G1, fx1, b1, b2, v1, v2, rfl, rfl, rfl, rfl, f1, f2⟩ := RetPw.sq (m := m) (e := e) (n := n) (f := f) (k := k) x1 x2 (by omega) hwk
  have p1 := fun v W h hT => dpw_any m e n f 2 k v W h (by omega) (by omega) (by omega) (by omega) hv hv2 hd (fun h => ⟨pb_of hv x1 (by omega) (by omega) h, pb_of hv2 x2 (by omega) (by omega) h⟩) (by omega) (by omega) (small_bd x1 x2 (by omega) (by omega) (by omega) hd) hT
  simp only [fx1] at p1
  obtain ⟨i1, i2⟩ := im_sq (s := sgB m n) x1 x2
  have i3 := plo_phi (sgB m n) (dq m e) (dq n f) 2
  have pl := plo_or (sgB m n) (dq m e) (dq n f) 2
  have ph := phi_or (sgB m n) (dq m e) (dq n f) 2
  have hsg : sgB m n = false → dq m e ≤ 0 ∧ 0 ≤ dq n f := fun h => by
    have := sign_le hd
    have h0 := of_decide_eq_false h
    have r1 := cmpI_range m 0
    have r2 := cmpI_range n 0
    have a1 := dq_ng m e
    have a2 := dq_ng n f
    have a3 := dq_lt_iff 0 m e
    rw [dq_zero] at a3
    constructor
    · refine Rat.not_lt.1 fun h3 => ?_
      have h4 : 0 < m := a3.1 h3
      have h5 : cmpI m 0 = 1 := cmpI_gt h4
      exact h0 (h5.trans (this.1 h5).symm)
    · refine Rat.not_lt.1 fun h3 => ?_
      have h4 : n < 0 := a2.1 h3
      have h5 : cmpI n 0 = -1 := cmpI_lt h4
      exact h0 ((this.2 h5).trans h5.symm)
  have mbt : ∀ y, (y = dq m e ∨ y = dq n f ∨ (y = 0 ∧ sgB m n = false)) → min4 (dq m e * dq m e) (dq m e * dq n f) (dq n f * dq m e) (dq n f * dq n f) ≤ y * y ∧ y * y ≤ max4 (dq m e * dq m e) (dq m e * dq n f) (dq n f * dq m e) (dq n f * dq n f) := fun y hy => by
    have hyy : dq m e ≤ y ∧ y ≤ dq n f := by
      rcases hy with rfl | rfl | ⟨rfl, h⟩
      · exact ⟨Rat.le_refl, hle⟩
      · exact ⟨hle, Rat.le_refl⟩
      · exact hsg h
    exact mul_between hyy.1 hyy.2 hyy.1 hyy.2
  have w1 : min4 (dq m e * dq m e) (dq m e * dq n f) (dq n f * dq m e) (dq n f * dq n f) ≤ plo (sgB m n) (dq m e) (dq n f) 2 := by
    obtain ⟨y, hy, e1⟩ := pl
    rw [e1, pw_two]
    exact (mbt y hy).1
  have w2 : phi (sgB m n) (dq m e) (dq n f) 2 ≤ max4 (dq m e * dq m e) (dq m e * dq n f) (dq n f * dq m e) (dq n f * dq n f) := by
    obtain ⟨y, hy, e1⟩ := ph
    rw [e1, pw_two]
    exact (mbt y hy).2
  -- the product
  have y1 := bd_min4 (bd_prod lm lm he.2 he.2) (bd_prod lm ln he.2 hf.2) (bd_prod ln lm hf.2 he.2) (bd_prod ln ln hf.2 hf.2)
  have y2 := bd_max4 (bd_prod lm lm he.2 he.2) (bd_prod lm ln he.2 hf.2) (bd_prod ln lm hf.2 he.2) (bd_prod ln ln hf.2 hf.2)
  have w3 : min4 (dq m e * dq m e) (dq m e * dq n f) (dq n f * dq m e) (dq n f * dq n f) ≤ max4 (dq m e * dq m e) (dq m e * dq n f) (dq n f * dq m e) (dq n f * dq n f) := Rat.le_trans w1 (Rat.le_trans i3 w2)
  obtain ⟨g1, _⟩ := bd_F y1 (by omega) hwk
  obtain ⟨_, g2⟩ := bd_F y2 (by omega) hwk
  have gb := bd_enB y1 y2 (by omega) hwk w3
  obtain ⟨c1, c2, _⟩ := small_ends gb (en_dv g1) (up_dv g2)
  have fx2 : ∀ W, RetEn W (min4 (dq m e * dq m e) (dq m e * dq n f) (dq n f * dq m e) (dq n f * dq n f)) (max4 (dq m e * dq m e) (dq m e * dq n f) (dq n f * dq m e) (dq n f * dq n f)) k = RetIE W (enM (min4 (dq m e * dq m e) (dq m e * dq n f) (dq n f * dq m e) (dq n f * dq n f)) k) (enE (min4 (dq m e * dq m e) (dq m e * dq n f) (dq n f * dq m e) (dq n f * dq n f)) k) (upM (max4 (dq m e * dq m e) (dq m e * dq n f) (dq n f * dq m e) (dq n f * dq n f)) k) (upE (max4 (dq m e * dq m e) (dq m e * dq n f) (dq n f * dq m e) (dq n f * dq n f)) k) 0 := fun W => by
    unfold RetEn
    rw [if_pos hwk, if_pos ⟨g1, g2, gb⟩]
  have p2 := fun v u W h1 h2 hT => amul_any m e n f m e n f k v u W h1 h2 (by omega) (by omega) (by omega) (by omega) (by omega) (by omega) (by omega) (by omega) hd hd (by omega) (by omega) hT
  simp only [fx2] at p2
  have in1 := (inB_iff (enM (plo (sgB m n) (dq m e) (dq n f) 2) k) (enE (plo (sgB m n) (dq m e) (dq n f) 2) k) (upM (phi (sgB m n) (dq m e) (dq n f) 2) k) (upE (phi (sgB m n) (dq m e) (dq n f) 2) k) (enM (min4 (dq m e * dq m e) (dq m e * dq n f) (dq n f * dq m e) (dq n f * dq n f)) k) (enE (min4 (dq m e * dq m e) (dq m e * dq n f) (dq n f * dq m e) (dq n f * dq n f)) k) (upM (max4 (dq m e * dq m e) (dq m e * dq n f) (dq n f * dq m e) (dq n f * dq n f)) k) (upE (max4 (dq m e * dq m e) (dq m e * dq n f) (dq n f * dq m e) (dq n f * dq n f)) k)).2 ⟨en_mono (Int.le_refl k) w1 g1 f1, up_mono (Int.le_refl k) w2 g2 f2⟩
  have p3 := fun v u W h1 h2 => r10within_any _ _ _ _ _ _ _ _ v u W h1 h2 (Nat.le_trans b1.1 (by omega)) (Nat.le_trans b2.1 (by omega)) (Nat.le_trans c1.1 (by omega)) (Nat.le_trans c2.1 (by omega)) (wide b1.2) (wide b2.2) (wide c1.2) (wide c2.2)
  rw [in1] at p3
  -- the root of the square
  have n1 : 0 ≤ enM (plo (sgB m n) (dq m e) (dq n f) 2) k := mk_nn f1 (cut_nn i1 k)
  have z1 := en_lo f1
  have z2 := up_hi f2
  have n2 : 0 ≤ upM (phi (sgB m n) (dq m e) (dq n f) 2) k := Int.not_lt.1 fun h => Rat.not_le.2 ((dq_ng _ (upE (phi (sgB m n) (dq m e) (dq n f) 2) k)).2 h) (Rat.le_trans (Rat.le_trans i1 i3) z2)
  have z3 := Rat.le_trans z1 (Rat.le_trans i3 z2)
  have z4 := (bd_up (bd_nn (Rat.le_trans i1 i3) i2) hk.1 f2).2
  obtain ⟨M1, hM1⟩ : ∃ z, enM (plo (sgB m n) (dq m e) (dq n f) 2) k = z := ⟨_, rfl⟩
  obtain ⟨E1, hE1⟩ : ∃ z, enE (plo (sgB m n) (dq m e) (dq n f) 2) k = z := ⟨_, rfl⟩
  obtain ⟨N1, hN1⟩ : ∃ z, upM (phi (sgB m n) (dq m e) (dq n f) 2) k = z := ⟨_, rfl⟩
  obtain ⟨G1, hG1⟩ : ∃ z, upE (phi (sgB m n) (dq m e) (dq n f) 2) k = z := ⟨_, rfl⟩
  rw [hM1, hE1, hN1, hG1] at p1 p3
  rw [hM1, hE1] at b1 v1
  rw [hN1, hG1] at b2 v2
  rw [hM1] at n1
  rw [hN1] at n2
  rw [hM1, hE1, hN1, hG1] at z3
  rw [hN1, hG1] at z4
  obtain ⟨M3, E3, N3, G3, fx3, d1, d2, v3, v4, q1, q2, _, hE3, _, hG3⟩ := RetSr.sure (m := M1) (e := E1) (n := N1) (f := G1) (k := k) (i := 199) b1.1 b2.1 b1.2 b2.2 n1 n2 z3 (Rat.le_trans z4 (dq1_mono (by omega))) (by omega) hwk
  have p4 := fun v W h hT => dsqrt_any M1 E1 N1 G1 k v W h b1.1 b2.1 b1.2 b2.2 v1 v2 (by omega) (by omega) hT
  simp only [fx3] at p4
  have q3 := dq_nn E1 n1
  have q4 := dq_nn G1 n2
  have t1 : Bd (dq M3 E3) 200 := by
    rw [q1]
    exact bd_mono (bd_sqR (j := 199) q3 (Rat.le_trans z3 (Rat.le_trans z4 (dq1_mono (by omega)))) k) (by omega)
  have t2 : Bd (dq N3 G3) 200 := by
    rw [q2]
    exact bd_sqU (j := 199) q4 (Rat.le_trans z4 (dq1_mono (by omega))) hk.1
  have hd3 : dcm M3 E3 N3 G3 ≤ 0 := (dcm_le _ _ _ _).2 (by rw [q1, q2]; exact sq_order q3 z3 k)
  have e3 : -64 ≤ E3 := by have := mkE_in (sqR (dq M1 E1) k) k hk.1; omega
  have g3 : -64 ≤ G3 := by have := mkE_in (sqU (dq N1 G1) k) k hk.1; omega
  -- the square of the root
  obtain ⟨M4, E4, N4, G4, fx4, b3, b4, _, _, hM4, hE4, hN4, hG4, f3, f4⟩ := RetPw.sq (m := M3) (e := E3) (n := N3) (f := G3) (k := k) t1 t2 (by omega) hwk
  have p5 := fun v W h hT => dpw_any M3 E3 N3 G3 2 k v W h d1.1 d2.1 d1.2 d2.2 v3 v4 hd3 (fun h => ⟨pb_two v3 t1 e3 (by omega), pb_two v4 t2 g3 (by omega)⟩) (by omega) (by omega) (small_bd t1 t2 (by omega) (by omega) (by omega) hd3) hT
  simp only [fx4] at p5
  have l1 := (plo_le (sgB M3 N3) (dq M3 E3) (dq N3 G3) 2).1
  have l2 := (le_phi (sgB M3 N3) (dq M3 E3) (dq N3 G3) 2).2.1
  rw [pw_two] at l1 l2
  have s1 := sq_lo q3 k
  have s2 := su_hi q4 k
  rw [← q1] at s1
  rw [← q2] at s2
  have in2 := (inB_iff M1 E1 N1 G1 M4 E4 N4 G4).2 ⟨by rw [hM4, hE4]; exact Rat.le_trans (en_lo f3) (Rat.le_trans l1 s1), by rw [hN4, hG4]; exact Rat.le_trans s2 (Rat.le_trans l2 (up_hi f4))⟩
  have p6 := fun v u W h1 h2 => r10within_any M1 E1 N1 G1 M4 E4 N4 G4 v u W h1 h2 (by omega) (by omega) (by omega) (by omega) (by omega) (by omega) (by omega) (by omega)
  rw [in2] at p6
  exact ⟨M1, E1, N1, G1, _, _, _, _, M3, E3, N3, G3, M4, E4, N4, G4, p1, p2, p3, p4, p5, p6⟩


end Go.Proofs.YthfabjpbdgieoaaGreatDoor
