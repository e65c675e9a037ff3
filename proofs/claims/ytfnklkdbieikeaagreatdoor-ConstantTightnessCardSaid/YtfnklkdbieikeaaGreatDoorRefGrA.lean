/- The reference's Cut. -/
import Derived.Test.YtfnklkdbieikeaaGreatDoorBaseM
import Derived.Test.YtfnklkdbieikeaaGreatDoorRefDivMod
import Derived.Test.YtfnklkdbieikeaaGreatDoorBaseE
import Derived.Test.YtfnklkdbieikeaaGreatDoorBaseV
import Derived.Deep.RegionHeld3
import Derived.Deep.DrawnRows
import Derived.Deep.Cut
import Derived.Deep.CutRange
namespace Go.Proofs.YtfnklkdbieikeaaGreatDoor
open Go.RowKit
set_option linter.unusedVariables false
set_option linter.unusedSimpArgs false
set_option maxRecDepth 100000
attribute [local go_sem ↓] Go.wp_at_zero Go.wp_at_succ

theorem zl_cut (a : Int) (d : Nat) (hd : 0 < d) (p : Int) : zl (cutQ (Rat.divInt a d) p) ≤ zl a + (p.toNat / 32 + 1) := by
  rw [cut_eq a d hd p]
  refine Nat.le_trans ?_ (zl_two a p.toNat)
  unfold zl
  exact len_mono (Int.natAbs_ediv_le_natAbs _ _)
theorem pow_of_tz {d : Nat} (hd : 0 < d) (h : tz d = blen d - 1) : d = 2 ^ (blen d - 1) := by
  obtain ⟨k, hk⟩ := tz_form hd
  have hb := lt_two_pow_blen d
  have hp := blen_pos hd
  obtain ⟨n, hn⟩ : ∃ n, blen d = n + 1 := ⟨blen d - 1, by omega⟩
  rw [hn] at h hb ⊢
  rw [Nat.add_sub_cancel] at h ⊢
  rw [h] at hk
  rw [hk, Nat.pow_succ] at hb
  have h2 : 0 < 2 ^ n := Nat.pow_pos (by omega)
  have h3 : 2 * k + 1 < 2 := Nat.lt_of_mul_lt_mul_left hb
  rw [hk, show 2 * k + 1 = 1 by omega, Nat.mul_one]
theorem cut_shl (a : Int) (n k : Nat) : cutQ (Rat.divInt a ((2 ^ n : Nat) : Int)) ((n : Int) + (k : Int)) = a * 2 ^ k := by
  rw [cut_eq a _ (two_pos8 n), cast2, show ((n : Int) + (k : Int)).toNat = k + n by omega, show (-((n : Int) + (k : Int))).toNat = 0 by omega, Int.pow_zero, Int.mul_one, Int.pow_add, ← Int.mul_assoc]
  exact Int.mul_ediv_cancel _ (pow2_ne n)
theorem cut_shr (a : Int) (n : Nat) (p : Int) (h : p ≤ (n : Int)) : cutQ (Rat.divInt a ((2 ^ n : Nat) : Int)) p = a / 2 ^ ((n : Int) - p).toNat := by
  rw [cut_eq a _ (two_pos8 n), cast2]
  by_cases h0 : 0 ≤ p
  · rw [show (-p).toNat = 0 by omega, Int.pow_zero, Int.mul_one, show (n : Nat) = ((n : Int) - p).toNat + p.toNat by omega, Int.pow_add, show ((((((n : Int) - p).toNat + p.toNat : Nat)) : Int) - p).toNat = ((n : Int) - p).toNat by omega]
    exact Int.mul_ediv_mul_of_pos_left _ _ (pow2_pos _)
  · rw [show p.toNat = 0 by omega, Int.pow_zero, Int.mul_one, ← Int.pow_add, show n + (-p).toNat = ((n : Int) - p).toNat by omega]
theorem Lq.pull4 {w0 w : World} {ns : List (Value × Nat)} {zs : List (Value × Int)} {qs : List (Value × Int × Nat)} {bs : List (Nat × TypeId × Array Value)} {p q r s t : Nat × TypeId × Array Value} (h : Lq w0 w ns zs qs (p :: q :: r :: s :: t :: bs)) : Lq w0 w ns zs qs (t :: p :: q :: r :: s :: bs) :=
  ⟨h.below, h.ns, h.zs, h.qs, fun u hu => h.bs u (by simp only [List.mem_cons] at hu ⊢; rcases hu with h | h | h | h | h | h <;> simp [h])⟩
theorem cut_up (a : Int) (d : Nat) (hd : 0 < d) (p : Nat) : cutQ (Rat.divInt a d) (p : Int) = a * 2 ^ p / (d : Int) := by
  rw [cut_eq a d hd, show ((p : Int)).toNat = p by omega, show (-(p : Int)).toNat = 0 by omega, Int.pow_zero, Int.mul_one]
theorem cut_down (a : Int) (d : Nat) (hd : 0 < d) (p : Nat) : cutQ (Rat.divInt a d) (-(p : Int)) = a / ((d : Int) * 2 ^ p) := by
  rw [cut_eq a d hd, show (-(p : Int)).toNat = 0 by omega, show (-(-(p : Int))).toNat = p by omega, Int.pow_zero, Int.mul_one]

end Go.Proofs.YtfnklkdbieikeaaGreatDoor
