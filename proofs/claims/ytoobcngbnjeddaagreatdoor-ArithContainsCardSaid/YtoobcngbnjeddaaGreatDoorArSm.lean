/- Which fractions have short cuts. -/
import Derived.Test.YtoobcngbnjeddaaGreatDoorBaseX
import Derived.Test.YtoobcngbnjeddaaGreatDoorMillAr
import Derived.Test.YtoobcngbnjeddaaGreatDoorArPE
import Derived.Test.YtoobcngbnjeddaaGreatDoorArDv
namespace Go.Proofs.YtoobcngbnjeddaaGreatDoor
open Go.RowKit
set_option linter.unusedVariables false
set_option linter.unusedSimpArgs false
set_option maxRecDepth 100000
attribute [local go_sem ↓] Go.wp_at_zero Go.wp_at_succ

/-- The cuts of a fraction and of its opposite are short. -/
def Sm (q : Rat) (z : Nat) : Prop := ∀ k : Int, 0 ≤ k → zl (cutQ q k) ≤ z + (k.toNat / 32 + 1) ∧ zl (cutQ (-q) k) ≤ z + (k.toNat / 32 + 1)
theorem sm_dq {m e : Int} {z : Nat} (h : zl m + (e.toNat / 32 + 1) ≤ z) : Sm (dq m e) z := fun k hk => by
  have z1 := zl_cutD m e k
  have z2 := zl_cutD (-m) e k
  have z3 := zl_neg m
  rw [dq_neg] at z2
  constructor <;> omega
theorem sm_neg {q : Rat} {z : Nat} (h : Sm q z) : Sm (-q) z := fun k hk => by
  rw [Rat.neg_neg]
  exact ⟨(h k hk).2, (h k hk).1⟩
theorem cut_le {q q' : Rat} (k : Int) (h : q ≤ q') : cutQ q k ≤ cutQ q' k := (dq_le_iff _ _ _).1 (cut_mono (Int.le_refl k) h)
theorem zl_between {a b c : Int} (h1 : a ≤ b) (h2 : b ≤ c) : zl b ≤ max (zl a) (zl c) := by
  unfold zl
  rcases Int.le_total 0 b with h | h
  · exact Nat.le_trans (len_mono (by omega : b.natAbs ≤ c.natAbs)) (Nat.le_max_right _ _)
  · exact Nat.le_trans (len_mono (by omega : b.natAbs ≤ a.natAbs)) (Nat.le_max_left _ _)
theorem sm_between {lo hi q : Rat} {z : Nat} (h1 : Sm lo z) (h2 : Sm hi z) (a : lo ≤ q) (b : q ≤ hi) : Sm q z := fun k hk => by
  have x1 := zl_between (cut_le k a) (cut_le k b)
  have x2 := zl_between (cut_le k (Rat.neg_le_neg b)) (cut_le k (Rat.neg_le_neg a))
  have y1 := h1 k hk
  have y2 := h2 k hk
  constructor <;> omega
theorem sm_min4 {a b c d : Rat} {z : Nat} (h1 : Sm a z) (h2 : Sm b z) (h3 : Sm c z) (h4 : Sm d z) : Sm (min4 a b c d) z := by
  rcases min4_or a b c d with h | h | h | h <;> rw [h] <;> assumption
theorem sm_max4 {a b c d : Rat} {z : Nat} (h1 : Sm a z) (h2 : Sm b z) (h3 : Sm c z) (h4 : Sm d z) : Sm (max4 a b c d) z := by
  rcases max4_or a b c d with h | h | h | h <;> rw [h] <;> assumption
theorem sm_mul {m e n f : Int} (lm : zl m ≤ 6) (ln : zl n ≤ 6) (he : -60 ≤ e ∧ e ≤ 252) (hf : -60 ≤ f ∧ f ≤ 252) : Sm (dq m e * dq n f) 60 := by
  rw [← dq_mul]
  have := zl_mul m n
  exact sm_dq (by omega)
theorem sm_add {m e n f : Int} (lm : zl m ≤ 6) (ln : zl n ≤ 6) (he : -60 ≤ e ∧ e ≤ 252) (hf : -60 ≤ f ∧ f ≤ 252) : Sm (dq m e + dq n f) 60 := by
  rw [← dq_add]
  have := zl_addS m e n f 252 (by omega) (by omega)
  exact sm_dq (by omega)
theorem sm_sub {m e n f : Int} (lm : zl m ≤ 6) (ln : zl n ≤ 6) (he : -60 ≤ e ∧ e ≤ 252) (hf : -60 ≤ f ∧ f ≤ 252) : Sm (dq m e - dq n f) 60 := by
  rw [Rat.sub_eq_add_neg, ← dq_neg]
  have := zl_neg n
  exact sm_add lm (by omega) he hf
theorem min4_le_max4 (a b c d : Rat) : min4 a b c d ≤ max4 a b c d := Rat.le_trans (min4_le a b c d).1 (le_max4 a b c d).1
theorem work_small {k : Int} (h1 : 0 ≤ k) (h2 : k ≤ 200) : workB k = true := by
  unfold workB
  rw [decide_eq_true h1, decide_eq_true (show k ≤ 4096 by omega)]
  rfl
theorem sure_sm {lo hi : Rat} {k : Int} (h1 : 0 ≤ k) (h2 : k ≤ 200) (s1 : Sm lo 60) (s2 : Sm hi 60) (hle : lo ≤ hi) : ∃ M E N G : Int, (∀ W, RetEn W lo hi k = RetIE W M E N G 0) ∧ (zl M ≤ 400 ∧ (-10000 ≤ E ∧ E ≤ 10000)) ∧ (zl N ≤ 400 ∧ (-10000 ≤ G ∧ G ≤ 10000)) ∧ Dv M E ∧ Dv N G ∧ M = enM lo k ∧ E = enE lo k ∧ N = upM hi k ∧ G = upE hi k ∧ enF lo k ∧ upF hi k ∧ dq M E ≤ lo ∧ hi ≤ dq N G := by
  have z3 := zl_neg (cutQ (-hi) k)
  have y1 := s1 k h1
  have y2 := s2 k h1
  exact RetEn.sure (z := 60) (work_small h1 h2) y1.1 (by omega) (by omega) hle


end Go.Proofs.YtoobcngbnjeddaaGreatDoor
