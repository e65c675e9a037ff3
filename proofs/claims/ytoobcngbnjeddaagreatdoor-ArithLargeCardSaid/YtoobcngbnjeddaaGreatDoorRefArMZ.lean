/- The reference's Mul. -/
import Derived.Test.YtoobcngbnjeddaaGreatDoorBaseQZ
import Derived.Test.YtoobcngbnjeddaaGreatDoorArApp2Z
import Derived.Deep.RegionHeld3
import Derived.Deep.DrawnRows
import Derived.Deep.Cut
import Derived.Deep.CutRange
namespace Go.Proofs.YtoobcngbnjeddaaGreatDoor
open Go.RowKit
set_option linter.unusedVariables false
set_option linter.unusedSimpArgs false
set_option maxRecDepth 100000
attribute [local go_sem ↓] Go.wp_at_zero Go.wp_at_succ

theorem IsP.map {w w' : World} {v : Value} {a : Int} {d : Nat} (k : ∀ u x, IsN w u x → IsN w' u x) (h : IsP w v a d) : IsP w' v a d := by
  obtain ⟨s, t, e, h1, h2⟩ := h
  exact ⟨s, t, e, k _ _ h1, k _ _ h2⟩
theorem prod_small {a b : Int} {d e : Nat} (ha : zl a ≤ 120) (hb : zl b ≤ 120) (hd : len d ≤ 120) (he : len e ≤ 120) (hd0 : 0 < d) (he0 : 0 < e) : zl (Rat.divInt (a * b) ((d : Int) * (e : Int))).num ≤ 800 ∧ len (Rat.divInt (a * b) ((d : Int) * (e : Int))).den ≤ 800 := by
  obtain ⟨e1, e2⟩ := divInt_pair (a * b) ((d : Int) * (e : Int)) (Int.mul_ne_zero (by omega) (by omega))
  have h1 := zl_mul a b
  have h4 := zl_mul (d : Int) (e : Int)
  have z1 : zl (d : Int) = len d := rfl
  have z2 : zl (e : Int) = len e := rfl
  constructor
  · refine Nat.le_trans (m := zl (a * b)) ?_ (by omega)
    unfold zl
    rw [e1]
    exact len_mono (by rw [sg_abs]; exact Nat.div_le_self _ _)
  · refine Nat.le_trans (m := zl ((d : Int) * (e : Int))) ?_ (by omega)
    unfold zl
    rw [e2]
    exact len_mono (Nat.div_le_self _ _)
end Go.Proofs.YtoobcngbnjeddaaGreatDoor
