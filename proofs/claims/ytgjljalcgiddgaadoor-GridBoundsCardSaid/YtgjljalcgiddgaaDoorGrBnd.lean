/- What GridBounds asks of the numbers. -/
import Derived.Test.YtgjljalcgiddgaaDoorBaseM
import Derived.Test.YtgjljalcgiddgaaDoorBaseF
import Derived.Test.YtgjljalcgiddgaaDoorBaseE
namespace Go.Proofs.YtgjljalcgiddgaaDoor
open Go.RowKit
set_option linter.unusedVariables false
set_option linter.unusedSimpArgs false
set_option maxRecDepth 100000
attribute [local go_sem ↓] Go.wp_at_zero Go.wp_at_succ

theorem perm_in {p : Int} (h1 : -2048 ≤ p) (h2 : p ≤ 8192) : permB p = true := by
  unfold permB
  rw [decide_eq_true h1, decide_eq_true h2]; rfl
theorem on_mk {C p : Int} (hp : permB p = true) (h : mkR C (-p) = 0) : onB (mkM C (-p)) (mkE C (-p)) p = true := by
  unfold onB
  rw [hp, Bool.true_and]
  by_cases h0 : C = 0
  · subst h0
    have : mkM 0 (-p) = 0 := by unfold mkM; rw [h, if_pos rfl, oddM_zero]
    rw [this, decide_eq_true rfl, Bool.true_or]
  · have : mkE C (-p) = -p + (tz C.natAbs : Int) := by unfold mkE; rw [if_neg h0, h, if_pos rfl]; rfl
    rw [this, decide_eq_true (show -p ≤ -p + (tz C.natAbs : Int) by omega), Bool.or_true]
theorem sub_q (x y : Rat) : Rat.divInt (x.num * (y.den : Int) + -y.num * (x.den : Int)) ((x.den : Int) * (y.den : Int)) = x - y := by
  have h := rat_add x (-y)
  rw [Rat.neg_num, Rat.neg_den] at h
  rw [h, Rat.sub_eq_add_neg]
/-- Differences of short fractions are short. -/
theorem sub_small (x y : Rat) (hx : zl x.num ≤ 300 ∧ len x.den ≤ 300) (hy : zl y.num ≤ 300 ∧ len y.den ≤ 300) : zl (x - y).num ≤ 1000 ∧ len (x - y).den ≤ 1000 := by
  have h1 := zl_mul x.num (y.den : Int)
  have h2 := zl_mul (-y.num) (x.den : Int)
  have h3 := zl_neg y.num
  have h4 := zl_add (x.num * (y.den : Int)) (-y.num * (x.den : Int))
  have h5 := len_mul x.den y.den
  have e1 : zl (x.den : Int) = len x.den := rfl
  have e2 : zl (y.den : Int) = len y.den := rfl
  have h := divInt_small (x.num * (y.den : Int) + -y.num * (x.den : Int)) (x.den * y.den) 1000 (by omega) (by omega) (Nat.mul_pos (den_pos' x) (den_pos' y))
  rw [Int.natCast_mul, sub_q] at h
  exact h
theorem cmp_lt {x y : Rat} (h : x < y) : cmpI (x.num * (y.den : Int)) (y.num * (x.den : Int)) = -1 := cmpI_lt ((Rat.lt_iff x y).1 h)
theorem cmp_le {x y : Rat} (h : x ≤ y) : decide (cmpI (x.num * (y.den : Int)) (y.num * (x.den : Int)) ≤ 0) = true := by
  have h1 := (Rat.le_iff x y).1 h
  refine decide_eq_true ?_
  unfold cmpI
  (repeat' split) <;> omega
theorem sign_nn {x : Rat} (h : 0 ≤ x) : decide (cmpI x.num 0 < 0) = false := by
  have h1 := Rat.num_nonneg.2 h
  refine decide_eq_false ?_
  unfold cmpI
  (repeat' split) <;> omega
theorem down_ok (q : Rat) (p : Int) : 0 ≤ q - dq (cutQ q p) (-p) ∧ q - dq (cutQ q p) (-p) < dq 1 (-p) := by
  refine ⟨(Rat.le_iff_sub_nonneg _ _).1 (cut_lo q p), ?_⟩
  rw [Rat.sub_lt_iff, Rat.add_comm]
  exact cut_hi q p
theorem up_ok (q : Rat) (p : Int) : 0 ≤ dq (-(cutQ (-q) p)) (-p) - q ∧ dq (-(cutQ (-q) p)) (-p) - q < dq 1 (-p) := by
  have h1 := cut_lo (-q) p
  have h2 := cut_hi (-q) p
  rw [dq_neg]
  generalize dq (cutQ (-q) p) (-p) = z at *
  refine ⟨(Rat.le_iff_sub_nonneg _ _).1 (Rat.le_neg_iff.1 h1), ?_⟩
  rw [Rat.sub_lt_iff]
  have h3 := (Rat.add_lt_add_left (c := -z)).2 h2
  rw [← Rat.add_assoc, Rat.neg_add_cancel, Rat.zero_add] at h3
  have h4 := (Rat.add_lt_add_right (c := q)).2 h3
  rw [Rat.add_assoc, Rat.neg_add_cancel, Rat.add_zero] at h4
  exact h4
theorem off_ok (q : Rat) (p : Int) : dq ((cutQ q (p + 1) + 1) / 2) (-p) - q ≤ dq 1 (-(p + 1)) ∧ -(dq ((cutQ q (p + 1) + 1) / 2) (-p) - q) < dq 1 (-(p + 1)) := by
  have h1 := near_lo q p
  have h2 := near_hi q p
  generalize dq ((cutQ q (p + 1) + 1) / 2) (-p) = z at *
  refine ⟨?_, ?_⟩
  · rw [Rat.sub_right_le_iff_le_add, Rat.add_comm]; exact h1
  · rw [Rat.neg_sub, Rat.sub_lt_iff, Rat.add_comm]; exact h2


end Go.Proofs.YtgjljalcgiddgaaDoor
