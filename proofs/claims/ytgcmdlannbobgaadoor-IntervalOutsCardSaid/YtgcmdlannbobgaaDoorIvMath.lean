/- Intervals of dyadics: how ends lie, as fractions. -/
import Derived.Test.YtgcmdlannbobgaaDoorBaseM
import Derived.Test.YtgcmdlannbobgaaDoorIvA
namespace Go.Proofs.YtgcmdlannbobgaaDoor
open Go.RowKit
set_option linter.unusedVariables false
set_option linter.unusedSimpArgs false
set_option maxRecDepth 100000
attribute [local go_sem ↓] Go.wp_at_zero Go.wp_at_succ

theorem dq_le_iff (C D F : Int) : dq C F ≤ dq D F ↔ C ≤ D := by
  rw [dq_scale C, dq_scale D]
  constructor
  · intro h
    exact Rat.intCast_le_intCast.1 (Rat.le_of_mul_le_mul_right h (dq_pos F))
  · intro h
    exact Rat.mul_le_mul_of_nonneg_right (Rat.intCast_le_intCast.2 h) (Rat.le_of_lt (dq_pos F))
theorem cmpI_le (a b : Int) : cmpI a b ≤ 0 ↔ a ≤ b := by
  unfold cmpI
  (repeat' split) <;> omega
theorem dcm_le (m e n f : Int) : dcm m e n f ≤ 0 ↔ dq m e ≤ dq n f := by
  have h1 : dq m e = dq (m * 2 ^ (e - min e f).toNat) (min e f) := dq_eq (F := min e f) (by rw [show min e f - min e f = 0 by omega]; simp) (by omega) (by omega)
  have h2 : dq n f = dq (n * 2 ^ (f - min e f).toNat) (min e f) := dq_eq (F := min e f) (by rw [show min e f - min e f = 0 by omega]; simp) (by omega) (by omega)
  rw [h1, h2, dq_le_iff]
  exact cmpI_le _ _
theorem dcm_swap (m e n f : Int) : dcm n f m e = -dcm m e n f := by
  unfold dcm
  rw [Int.min_comm f e]
  exact cmpI_neg _ _
theorem dcm_range (m e n f : Int) : -1 ≤ dcm m e n f ∧ dcm m e n f ≤ 1 := cmpI_range _ _
theorem dcm_ge (m e n f : Int) : 0 ≤ dcm m e n f ↔ dq n f ≤ dq m e := by
  rw [← dcm_le, dcm_swap]
  omega
theorem dcm_lt (m e n f : Int) : dcm m e n f < 0 ↔ dq m e < dq n f := by
  rw [← Rat.not_le, ← dcm_ge]
  omega
theorem dcm_self (m e : Int) : dcm m e m e = 0 := by
  unfold dcm
  exact cmpI_eq _
theorem dcm_eq {m e n f : Int} (h1 : Dv m e) (h2 : Dv n f) : dcm m e n f = 0 ↔ (m = n ∧ e = f) := by
  have h := cmp_same h1 h2
  rw [Bool.eq_iff_iff, Bool.and_eq_true, decide_eq_true_iff, decide_eq_true_iff, decide_eq_true_iff] at h
  unfold dcm
  rw [h]
  exact ⟨fun h => ⟨h.2, h.1⟩, fun h => ⟨h.2, h.1⟩⟩
/-- The lesser and the greater one of two dyadics. -/
def lstD (m e n f : Int) : Int × Int := if dcm m e n f ≤ 0 then (m, e) else (n, f)
def gstD (m e n f : Int) : Int × Int := if 0 ≤ dcm m e n f then (m, e) else (n, f)
theorem lstD_dv {m e n f : Int} (h1 : Dv m e) (h2 : Dv n f) : Dv (lstD m e n f).1 (lstD m e n f).2 := by
  unfold lstD; split <;> assumption
theorem gstD_dv {m e n f : Int} (h1 : Dv m e) (h2 : Dv n f) : Dv (gstD m e n f).1 (gstD m e n f).2 := by
  unfold gstD; split <;> assumption
theorem lstD_zl {m e n f : Int} {k : Nat} (h1 : zl m ≤ k) (h2 : zl n ≤ k) : zl (lstD m e n f).1 ≤ k := by
  unfold lstD; split <;> assumption
theorem gstD_zl {m e n f : Int} {k : Nat} (h1 : zl m ≤ k) (h2 : zl n ≤ k) : zl (gstD m e n f).1 ≤ k := by
  unfold gstD; split <;> assumption
theorem lstD_in {m e n f a b : Int} (h1 : a ≤ e ∧ e ≤ b) (h2 : a ≤ f ∧ f ≤ b) : a ≤ (lstD m e n f).2 ∧ (lstD m e n f).2 ≤ b := by
  unfold lstD; split <;> assumption
theorem gstD_in {m e n f a b : Int} (h1 : a ≤ e ∧ e ≤ b) (h2 : a ≤ f ∧ f ≤ b) : a ≤ (gstD m e n f).2 ∧ (gstD m e n f).2 ≤ b := by
  unfold gstD; split <;> assumption
theorem lstD_le (m e n f : Int) : dq (lstD m e n f).1 (lstD m e n f).2 ≤ dq m e ∧ dq (lstD m e n f).1 (lstD m e n f).2 ≤ dq n f := by
  unfold lstD
  split
  · rename_i h
    exact ⟨Rat.le_refl, (dcm_le _ _ _ _).1 h⟩
  · rename_i h
    refine ⟨(dcm_le n f m e).1 ?_, Rat.le_refl⟩
    rw [dcm_swap m e n f]; omega
theorem gstD_le (m e n f : Int) : dq m e ≤ dq (gstD m e n f).1 (gstD m e n f).2 ∧ dq n f ≤ dq (gstD m e n f).1 (gstD m e n f).2 := by
  unfold gstD
  split
  · rename_i h
    exact ⟨Rat.le_refl, (dcm_ge _ _ _ _).1 h⟩
  · rename_i h
    exact ⟨(dcm_le m e n f).1 (by omega), Rat.le_refl⟩
theorem lstD_or (m e n f : Int) : lstD m e n f = (m, e) ∨ lstD m e n f = (n, f) := by
  unfold lstD; split <;> simp
theorem gstD_or (m e n f : Int) : gstD m e n f = (m, e) ∨ gstD m e n f = (n, f) := by
  unfold gstD; split <;> simp
/-- Whether an interval's ends lie so that a fraction lies between them. -/
def hasB (m e n f : Int) (a : Int) (d : Nat) : Bool := decide (cmpI (m * 2 ^ e.toNat * (d : Int)) (a * ((2 ^ (-e).toNat : Nat) : Int)) ≤ 0) && decide (cmpI (a * ((2 ^ (-f).toNat : Nat) : Int)) (n * 2 ^ f.toNat * (d : Int)) ≤ 0)
theorem two_posI (k : Nat) : (0 : Int) < ((2 ^ k : Nat) : Int) := by
  rw [cast2]; exact pow2_pos k
theorem hasB_iff (m e n f a : Int) (d : Nat) (hd : 0 < d) : hasB m e n f a d = true ↔ dq m e ≤ Rat.divInt a (d : Int) ∧ Rat.divInt a (d : Int) ≤ dq n f := by
  unfold hasB
  rw [Bool.and_eq_true, decide_eq_true_iff, decide_eq_true_iff, cmpI_le, cmpI_le]
  have h1 : dq m e ≤ Rat.divInt a (d : Int) ↔ m * 2 ^ e.toNat * (d : Int) ≤ a * ((2 ^ (-e).toNat : Nat) : Int) := divInt_le (two_posI _) (by omega)
  have h2 : Rat.divInt a (d : Int) ≤ dq n f ↔ a * ((2 ^ (-f).toNat : Nat) : Int) ≤ n * 2 ^ f.toNat * (d : Int) := divInt_le (by omega) (two_posI _)
  rw [h1, h2]
/-- Whether one interval lies within another. -/
def inB (m e n f m' e' n' f' : Int) : Bool := decide (dcm m' e' m e ≤ 0) && decide (dcm n f n' f' ≤ 0)
theorem inB_iff (m e n f m' e' n' f' : Int) : inB m e n f m' e' n' f' = true ↔ dq m' e' ≤ dq m e ∧ dq n f ≤ dq n' f' := by
  unfold inB
  rw [Bool.and_eq_true, decide_eq_true_iff, decide_eq_true_iff, dcm_le, dcm_le]
theorem in_has {m e n f m' e' n' f' a : Int} {d : Nat} (hd : 0 < d) (h1 : inB m e n f m' e' n' f' = true) (h2 : hasB m e n f a d = true) : hasB m' e' n' f' a d = true := by
  rw [inB_iff] at h1
  rw [hasB_iff _ _ _ _ _ _ hd] at h2 ⊢
  exact ⟨Rat.le_trans h1.1 h2.1, Rat.le_trans h2.2 h1.2⟩
theorem in_self (m e n f : Int) : inB m e n f m e n f = true := by
  rw [inB_iff]
  exact ⟨Rat.le_refl, Rat.le_refl⟩


end Go.Proofs.YtgcmdlannbobgaaDoor
