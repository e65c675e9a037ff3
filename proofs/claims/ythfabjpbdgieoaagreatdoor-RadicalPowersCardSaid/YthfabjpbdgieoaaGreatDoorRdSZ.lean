/- What the sign of an interval says of its ends. -/
import Derived.Test.YthfabjpbdgieoaaGreatDoorRdPEZ
import Derived.Test.YthfabjpbdgieoaaGreatDoorBaseWZ
namespace Go.Proofs.YthfabjpbdgieoaaGreatDoor
open Go.RowKit
set_option linter.unusedVariables false
set_option linter.unusedSimpArgs false
set_option maxRecDepth 100000
attribute [local go_sem ↓] Go.wp_at_zero Go.wp_at_succ

theorem dq_sgn (m e : Int) : (m < 0 ↔ dq m e < 0) ∧ (0 < m ↔ 0 < dq m e) ∧ (m = 0 ↔ dq m e = 0) := by
  have h1 := dcm_lt m e 0 0
  have h2 := dcm_lt 0 0 m e
  have h3 := dcm_zero_iff m e 0 0
  rw [dq_zero] at h1 h2 h3
  rw [dcm_swap m e 0 0] at h2
  rw [dcm_zero] at h1 h2 h3
  unfold cmpI at h1 h2 h3
  refine ⟨?_, ?_, ?_⟩
  · rw [← h1]; (repeat' split) <;> omega
  · rw [← h2]; (repeat' split) <;> omega
  · rw [← h3]; (repeat' split) <;> omega
/-- What the sign of an interval says of its ends. -/
theorem sg_cases {m e n f : Int} (hd : dcm m e n f ≤ 0) : (sgB m n = false → dq m e ≤ 0 ∧ 0 ≤ dq n f) ∧ (sgB m n = true → (sgV m n = 0 → dq m e = 0 ∧ dq n f = 0) ∧ (sgV m n ≠ 0 → 0 < dq m e ∨ dq n f < 0)) := by
  have hle := (dcm_le _ _ _ _).1 hd
  obtain ⟨a1, a2, a3⟩ := dq_sgn m e
  obtain ⟨b1, b2, b3⟩ := dq_sgn n f
  have key : ¬ (0 < m ∧ n ≤ 0) ∧ ¬ (m = 0 ∧ n < 0) := by
    constructor
    · rintro ⟨h1, h2⟩
      have x1 := a2.1 h1
      have x2 : ¬ 0 < dq n f := fun h => absurd (b2.2 h) (by omega)
      exact x2 (rle_lt x1 hle)
    · rintro ⟨h1, h2⟩
      have x1 := a3.1 h1
      have x2 := b1.1 h2
      rw [x1] at hle
      exact Rat.not_le.2 x2 hle
  unfold sgB sgV cmpI
  constructor
  · intro h
    have h0 := of_decide_eq_false h
    constructor
    · refine Rat.not_lt.1 (fun h2 => ?_)
      have := a2.2 h2
      revert h0
      (repeat' split) <;> omega
    · refine Rat.not_lt.1 (fun h2 => ?_)
      have := b1.2 h2
      revert h0
      (repeat' split) <;> omega
  · intro h
    have h0 := of_decide_eq_true h
    rw [if_pos h0]
    constructor
    · intro h3
      have e1 : m = 0 := by revert h3; (repeat' split) <;> omega
      have e2 : n = 0 := by revert h0 h3; (repeat' split) <;> omega
      exact ⟨a3.1 e1, b3.1 e2⟩
    · intro h3
      have e1 : 0 < m ∨ n < 0 := by revert h0 h3; (repeat' split) <;> omega
      exact e1.elim (fun h => Or.inl (a2.1 h)) (fun h => Or.inr (b1.1 h))


end Go.Proofs.YthfabjpbdgieoaaGreatDoor
