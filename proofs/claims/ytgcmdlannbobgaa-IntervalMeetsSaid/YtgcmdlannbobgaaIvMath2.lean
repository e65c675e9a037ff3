/- What the walks of layer 10's laws lean on. -/
import Derived.Test.YtgcmdlannbobgaaRefIvB
namespace Go.Proofs.Ytgcmdlannbobgaa
open Go.RowKit
set_option linter.unusedVariables false
set_option linter.unusedSimpArgs false
set_option maxRecDepth 100000
attribute [local go_sem ↓] Go.wp_at_zero Go.wp_at_succ

theorem dcm_zero (n f : Int) : dcm n f 0 0 = cmpI n 0 := by
  unfold dcm
  have h := cmpI_scale n 0 (pow2_pos (f - min f 0).toNat)
  rw [Int.zero_mul] at h ⊢
  exact h
theorem sign_le {m e n f : Int} (h : dcm m e n f ≤ 0) : (cmpI m 0 = 1 → cmpI n 0 = 1) ∧ (cmpI n 0 = -1 → cmpI m 0 = -1) := by
  have h0 := (dcm_le m e n f).1 h
  have r1 := cmpI_range m 0
  have r2 := cmpI_range n 0
  constructor
  · intro h1
    have a1 : dq 0 0 < dq m e := (dcm_lt 0 0 m e).1 (by rw [dcm_swap m e 0 0, dcm_zero]; omega)
    have a2 := (dcm_lt 0 0 n f).2 (rle_lt a1 h0)
    rw [dcm_swap n f 0 0, dcm_zero] at a2
    omega
  · intro h1
    have a1 : dq n f < dq 0 0 := (dcm_lt n f 0 0).1 (by rw [dcm_zero]; omega)
    have a2 := (dcm_lt m e 0 0).2 (rlt_le h0 a1)
    rw [dcm_zero] at a2
    omega
theorem icm_swap {m e n f m2 e2 n2 f2 : Int} (h1 : dcm m e n f ≤ 0) (h2 : dcm m2 e2 n2 f2 ≤ 0) : icm m2 e2 n2 f2 m e n f = -icm m e n f m2 e2 n2 f2 := by
  unfold icm
  rw [dcm_swap m e n2 f2, dcm_swap n f m2 e2]
  have h : ¬ (dcm n f m2 e2 < 0 ∧ 0 < dcm m e n2 f2) := by
    rintro ⟨a1, a2⟩
    have b1 := (dcm_lt n f m2 e2).1 a1
    have b2 : dq n2 f2 < dq m e := (dcm_lt n2 f2 m e).1 (by rw [dcm_swap m e n2 f2]; omega)
    have c1 := (dcm_le _ _ _ _).1 h1
    have c2 := (dcm_le _ _ _ _).1 h2
    exact Rat.not_le.2 (rlt_le (Rat.le_trans c1 (Rat.le_of_lt (rle_lt b1 c2))) b2) Rat.le_refl
  generalize dcm n f m2 e2 = a at *
  generalize dcm m e n2 f2 = b at *
  (repeat' split) <;> omega
theorem icm_range (m e n f m2 e2 n2 f2 : Int) : -1 ≤ icm m e n f m2 e2 n2 f2 ∧ icm m e n f m2 e2 n2 f2 ≤ 1 := by
  unfold icm
  (repeat' split) <;> omega
/-- An interval meets zero just where it has no sign, or the sign zero. -/
theorem icm_zero {m e n f : Int} (h : dcm m e n f ≤ 0) : (icm m e n f 0 0 0 0 == 0) = (!(decide (cmpI m 0 = cmpI n 0)) || ((if cmpI m 0 = cmpI n 0 then cmpI m 0 else 0) == 0)) := by
  unfold icm
  rw [dcm_zero, dcm_zero]
  have h1 := sign_le h
  have r1 := cmpI_range m 0
  have r2 := cmpI_range n 0
  generalize cmpI m 0 = a at *
  generalize cmpI n 0 = b at *
  rw [Bool.eq_iff_iff]
  by_cases q : a = b
  · subst q
    simp only [decide_true, Bool.not_true, Bool.false_or, if_true, beq_iff_eq]
    (repeat' split) <;> omega
  · simp only [decide_eq_false q, Bool.not_false, Bool.true_or, iff_true, beq_iff_eq]
    (repeat' split) <;> omega
theorem mt_icm {m e n f m2 e2 n2 f2 : Int} (h1 : dcm m e n f ≤ 0) (h2 : dcm m2 e2 n2 f2 ≤ 0) : mtB m e n f m2 e2 n2 f2 = (icm m e n f m2 e2 n2 f2 == 0) := by
  have c1 := (dcm_le _ _ _ _).1 h1
  have c2 := (dcm_le _ _ _ _).1 h2
  have g := gstD_le m e m2 e2
  have l := lstD_le n f n2 f2
  have go := gstD_or m e m2 e2
  have lo := lstD_or n f n2 f2
  have key : mtB m e n f m2 e2 n2 f2 = true ↔ (dq m2 e2 ≤ dq n f ∧ dq m e ≤ dq n2 f2) := by
    unfold mtB
    rw [decide_eq_true_iff, dcm_le]
    constructor
    · intro h
      exact ⟨Rat.le_trans g.2 (Rat.le_trans h l.1), Rat.le_trans g.1 (Rat.le_trans h l.2)⟩
    · rintro ⟨a1, a2⟩
      rcases go with e1 | e1 <;> rcases lo with e2 | e2 <;> rw [e1, e2] <;> assumption
  rw [Bool.eq_iff_iff, key, beq_iff_eq]
  rw [← dcm_le, ← dcm_le, dcm_swap n f m2 e2]
  unfold icm
  generalize dcm n f m2 e2 = a at *
  generalize dcm m e n2 f2 = b at *
  (repeat' split) <;> omega
theorem meet_has (m e n f m2 e2 n2 f2 a : Int) (d : Nat) (hd : 0 < d) : (hasB m e n f a d && hasB m2 e2 n2 f2 a d) = (mtB m e n f m2 e2 n2 f2 && hasB (gstD m e m2 e2).1 (gstD m e m2 e2).2 (lstD n f n2 f2).1 (lstD n f n2 f2).2 a d) := by
  have g := gstD_le m e m2 e2
  have l := lstD_le n f n2 f2
  have go := gstD_or m e m2 e2
  have lo := lstD_or n f n2 f2
  unfold mtB
  rw [Bool.eq_iff_iff, Bool.and_eq_true, Bool.and_eq_true, hasB_iff _ _ _ _ _ _ hd, hasB_iff _ _ _ _ _ _ hd, hasB_iff _ _ _ _ _ _ hd, decide_eq_true_iff, dcm_le]
  constructor
  · rintro ⟨⟨a1, a2⟩, a3, a4⟩
    have b1 : dq (gstD m e m2 e2).1 (gstD m e m2 e2).2 ≤ Rat.divInt a (d : Int) := by rcases go with e1 | e1 <;> rw [e1] <;> assumption
    have b2 : Rat.divInt a (d : Int) ≤ dq (lstD n f n2 f2).1 (lstD n f n2 f2).2 := by rcases lo with e1 | e1 <;> rw [e1] <;> assumption
    exact ⟨Rat.le_trans b1 b2, b1, b2⟩
  · rintro ⟨_, b1, b2⟩
    exact ⟨⟨Rat.le_trans g.1 b1, Rat.le_trans b2 l.1⟩, Rat.le_trans g.2 b1, Rat.le_trans b2 l.2⟩
theorem hull_in (m e n f m2 e2 n2 f2 : Int) : inB m e n f (lstD m e m2 e2).1 (lstD m e m2 e2).2 (gstD n f n2 f2).1 (gstD n f n2 f2).2 = true ∧ inB m2 e2 n2 f2 (lstD m e m2 e2).1 (lstD m e m2 e2).2 (gstD n f n2 f2).1 (gstD n f n2 f2).2 = true := by
  have g := gstD_le n f n2 f2
  have l := lstD_le m e m2 e2
  rw [inB_iff, inB_iff]
  exact ⟨⟨l.1, g.1⟩, l.2, g.2⟩


end Go.Proofs.Ytgcmdlannbobgaa
