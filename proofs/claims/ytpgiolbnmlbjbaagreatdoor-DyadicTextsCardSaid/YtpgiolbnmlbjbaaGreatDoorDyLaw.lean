/- What the walks of layer 8's laws lean on. -/
import Derived.Test.YtpgiolbnmlbjbaaGreatDoorDyMath2
import Derived.Test.YtpgiolbnmlbjbaaGreatDoorRatA
namespace Go.Proofs.YtpgiolbnmlbjbaaGreatDoor
open Go.RowKit
set_option linter.unusedVariables false
set_option linter.unusedSimpArgs false
set_option maxRecDepth 100000
attribute [local go_sem ↓] Go.wp_at_zero Go.wp_at_succ

theorem len_two (j : Nat) : len (2 ^ j) ≤ j / 32 + 1 := by
  refine len_le ?_
  rw [W32_pow]
  exact Nat.pow_lt_pow_right (by omega) (by omega)
theorem zl_two (m : Int) (k : Nat) : zl (m * 2 ^ k) ≤ zl m + (k / 32 + 1) := by
  have h : (m * 2 ^ k).natAbs = m.natAbs * 2 ^ k := by rw [Int.natAbs_mul, Int.natAbs_pow]; rfl
  unfold zl
  rw [h]
  exact Nat.le_trans (len_mul _ _) (Nat.add_le_add_left (len_two k) _)
theorem two_pos8 (j : Nat) : 0 < 2 ^ j := Nat.pow_pos (by omega)
theorem zl_addS (m e n k : Int) (K : Nat) (he : -(K : Int) ≤ e ∧ e ≤ (K : Int)) (hk : -(K : Int) ≤ k ∧ k ≤ (K : Int)) : zl (addS m e n k) ≤ max (zl m) (zl n) + (2 * K / 32 + 2) := by
  unfold addS
  have h1 := zl_two m (e - min e k).toNat
  have h2 := zl_two n (k - min e k).toNat
  have h3 := zl_add (m * 2 ^ (e - min e k).toNat) (n * 2 ^ (k - min e k).toNat)
  have h4 : (e - min e k).toNat / 32 ≤ 2 * K / 32 := Nat.div_le_div_right (by omega)
  have h5 : (k - min e k).toNat / 32 ≤ 2 * K / 32 := Nat.div_le_div_right (by omega)
  omega


end Go.Proofs.YtpgiolbnmlbjbaaGreatDoor
