/- Quotients of intervals: which of the four are the least and the greatest; what Div returns. -/
import Derived.Test.YtoobcngbnjeddaaGreatDoorArPFZ
import Derived.Test.YtoobcngbnjeddaaGreatDoorBaseWZ
namespace Go.Proofs.YtoobcngbnjeddaaGreatDoor
open Go.RowKit
set_option linter.unusedVariables false
set_option linter.unusedSimpArgs false
set_option maxRecDepth 100000
attribute [local go_sem ↓] Go.wp_at_zero Go.wp_at_succ

theorem div_ends {a b c d : Rat} (hab : a ≤ b) (hc : 0 < c) (hcd : c ≤ d) : (if a < 0 then a / c else a / d) = min4 (a / c) (a / d) (b / c) (b / d) ∧ (if b < 0 then b / d else b / c) = max4 (a / c) (a / d) (b / c) (b / d) := by
  have hd : 0 < d := rle_lt hc hcd
  have i1 := inv_anti hc hcd
  have i2 := Rat.le_of_lt (inv_pos hc)
  have i3 := Rat.le_of_lt (inv_pos hd)
  simp only [Rat.div_def]
  have b1 := mul_nn hab i2
  have b2 := mul_nn hab i3
  have m4 := min4_le (a * c⁻¹) (a * d⁻¹) (b * c⁻¹) (b * d⁻¹)
  have M4 := le_max4 (a * c⁻¹) (a * d⁻¹) (b * c⁻¹) (b * d⁻¹)
  constructor
  · by_cases h : a < 0
    · rw [if_pos h]
      have a1 := mul_np i1 (Rat.le_of_lt h)
      rw [Rat.mul_comm, Rat.mul_comm d⁻¹] at a1
      exact Rat.le_antisymm (le_min4 Rat.le_refl a1 b1 (Rat.le_trans a1 b2)) m4.1
    · rw [if_neg h]
      have a1 := mul_nn i1 (Rat.not_lt.1 h)
      rw [Rat.mul_comm, Rat.mul_comm c⁻¹] at a1
      exact Rat.le_antisymm (le_min4 a1 Rat.le_refl (Rat.le_trans a1 b1) b2) m4.2.1
  · by_cases h : b < 0
    · rw [if_pos h]
      have a1 := mul_np i1 (Rat.le_of_lt h)
      rw [Rat.mul_comm, Rat.mul_comm d⁻¹] at a1
      exact Rat.le_antisymm M4.2.2.2 (max4_le (Rat.le_trans b1 a1) b2 a1 Rat.le_refl)
    · rw [if_neg h]
      have a1 := mul_nn i1 (Rat.not_lt.1 h)
      rw [Rat.mul_comm, Rat.mul_comm c⁻¹] at a1
      exact Rat.le_antisymm M4.2.2.1 (max4_le b1 (Rat.le_trans b2 a1) Rat.le_refl a1)
theorem min4_rev (a b c d : Rat) : min4 d c b a = min4 a b c d := by
  have h1 := min4_le a b c d
  have h2 := min4_le d c b a
  exact Rat.le_antisymm (le_min4 h2.2.2.2 h2.2.2.1 h2.2.1 h2.1) (le_min4 h1.2.2.2 h1.2.2.1 h1.2.1 h1.1)
theorem max4_rev (a b c d : Rat) : max4 d c b a = max4 a b c d := by
  have h1 := le_max4 a b c d
  have h2 := le_max4 d c b a
  exact Rat.le_antisymm (max4_le h1.2.2.2 h1.2.2.1 h1.2.1 h1.1) (max4_le h2.2.2.2 h2.2.2.1 h2.2.1 h2.1)
theorem neg_div_neg' (a b : Rat) : -a / -b = a / b := by
  rw [Rat.div_def, Rat.div_def]
  by_cases hb : b = 0
  · rw [hb, Rat.neg_zero, Rat.inv_zero, Rat.mul_zero, Rat.mul_zero]
  · have h : (-b)⁻¹ = -(b⁻¹) := Rat.inv_eq_of_mul_eq_one (by rw [Rat.neg_mul, Rat.mul_neg, Rat.neg_neg, Rat.mul_inv_cancel b hb])
    rw [h, Rat.neg_mul, Rat.mul_neg, Rat.neg_neg]
theorem dq_lt0 (m e : Int) : dq m e < 0 ↔ m < 0 := by
  have h := dcm_lt m e 0 0
  rw [dcm_zero, show dq 0 0 = 0 from rfl] at h
  rw [← h]
  unfold cmpI
  (repeat' split) <;> omega
theorem dq_gt0 (m e : Int) : 0 < dq m e ↔ 0 < m := by
  have h := dcm_lt 0 0 m e
  rw [dcm_swap m e 0 0, dcm_zero, show dq 0 0 = 0 from rfl] at h
  rw [← h]
  unfold cmpI
  (repeat' split) <;> omega
theorem quo_lo {m e n f m2 e2 n2 f2 : Int} (h1 : dcm m e n f ≤ 0) (h2 : dcm m2 e2 n2 f2 ≤ 0) (hp : 0 < m2) (hp2 : 0 < n2) : Rat.divInt (qtA m e (if m < 0 then m2 else n2) (if m < 0 then e2 else f2)) (qtD m e (if m < 0 then m2 else n2) (if m < 0 then e2 else f2) : Int) = min4 (dq m e / dq m2 e2) (dq m e / dq n2 f2) (dq n f / dq m2 e2) (dq n f / dq n2 f2) := by
  rw [← (div_ends ((dcm_le _ _ _ _).1 h1) ((dq_gt0 m2 e2).2 hp) ((dcm_le _ _ _ _).1 h2)).1]
  have hs := dq_lt0 m e
  by_cases h : m < 0
  · rw [if_pos h, if_pos h, if_pos (hs.2 h)]
    exact qt_val (by omega)
  · rw [if_neg h, if_neg h, if_neg (fun h9 => h (hs.1 h9))]
    exact qt_val (by omega)
theorem quo_hi {m e n f m2 e2 n2 f2 : Int} (h1 : dcm m e n f ≤ 0) (h2 : dcm m2 e2 n2 f2 ≤ 0) (hp : 0 < m2) (hp2 : 0 < n2) : Rat.divInt (qtA n f (if n < 0 then n2 else m2) (if n < 0 then f2 else e2)) (qtD n f (if n < 0 then n2 else m2) (if n < 0 then f2 else e2) : Int) = max4 (dq m e / dq m2 e2) (dq m e / dq n2 f2) (dq n f / dq m2 e2) (dq n f / dq n2 f2) := by
  rw [← (div_ends ((dcm_le _ _ _ _).1 h1) ((dq_gt0 m2 e2).2 hp) ((dcm_le _ _ _ _).1 h2)).2]
  have hs := dq_lt0 n f
  by_cases h : n < 0
  · rw [if_pos h, if_pos h, if_pos (hs.2 h)]
    exact qt_val (by omega)
  · rw [if_neg h, if_neg h, if_neg (fun h9 => h (hs.1 h9))]
    exact qt_val (by omega)
theorem flip_lo (m e n f m2 e2 n2 f2 : Int) : min4 (dq (-n) f / dq (-n2) f2) (dq (-n) f / dq (-m2) e2) (dq (-m) e / dq (-n2) f2) (dq (-m) e / dq (-m2) e2) = min4 (dq m e / dq m2 e2) (dq m e / dq n2 f2) (dq n f / dq m2 e2) (dq n f / dq n2 f2) := by
  rw [dq_neg, dq_neg, dq_neg, dq_neg, neg_div_neg', neg_div_neg', neg_div_neg', neg_div_neg', min4_rev]
theorem flip_hi (m e n f m2 e2 n2 f2 : Int) : max4 (dq (-n) f / dq (-n2) f2) (dq (-n) f / dq (-m2) e2) (dq (-m) e / dq (-n2) f2) (dq (-m) e / dq (-m2) e2) = max4 (dq m e / dq m2 e2) (dq m e / dq n2 f2) (dq n f / dq m2 e2) (dq n f / dq n2 f2) := by
  rw [dq_neg, dq_neg, dq_neg, dq_neg, neg_div_neg', neg_div_neg', neg_div_neg', neg_div_neg', max4_rev]
theorem cmp_signs {m n : Int} (h : cmpI m 0 = cmpI n 0) : (cmpI m 0 < 0 → m < 0 ∧ n < 0) ∧ (¬ cmpI m 0 < 0 → cmpI m 0 ≠ 0 → 0 < m ∧ 0 < n) := by
  unfold cmpI at *
  (repeat' split at *) <;> omega
/-- What Div returns. -/
def RetDv (w : World) (m e n f m2 e2 n2 f2 k : Int) : Ending → World → Prop := if workB k = true then (if cmpI m2 0 = cmpI n2 0 then (if cmpI m2 0 = 0 then RetIE w 0 0 0 0 2 else RetEn w (min4 (dq m e / dq m2 e2) (dq m e / dq n2 f2) (dq n f / dq m2 e2) (dq n f / dq n2 f2)) (max4 (dq m e / dq m2 e2) (dq m e / dq n2 f2) (dq n f / dq m2 e2) (dq n f / dq n2 f2)) k) else RetIE w 0 0 0 0 5) else RetIE w 0 0 0 0 1

theorem Lq.name {w0 w : World} {ns : List (Value × Nat)} {zs : List (Value × Int)} {qs : List (Value × Int × Nat)} {bs : List (Nat × TypeId × Array Value)} (h : Lq w0 w ns zs qs bs) : ∃ x, w = x ∧ Lq w0 x ns zs qs bs := ⟨w, rfl, h⟩


end Go.Proofs.YtoobcngbnjeddaaGreatDoor
