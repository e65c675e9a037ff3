/- Fractions: pairs of an integer and a natural; what the results of the operations are. -/
import Derived.Test.YtpgiolbnmlbjbaaGreatDoorBaseI
namespace Go.Proofs.YtpgiolbnmlbjbaaGreatDoor
open Go.RowKit
set_option linter.unusedVariables false
set_option linter.unusedSimpArgs false
set_option maxRecDepth 100000

theorem sg_nonneg {z : Int} (h : 0 ≤ z) : sg false z.natAbs = z := by unfold sg; rw [if_neg (by simp)]; omega
theorem sg_div (z : Int) (g : Nat) (h : g ∣ z.natAbs) (b : Bool) (hb : b = ng z) : sg b (z.natAbs / g) = z / (g : Int) := by
  subst hb
  by_cases hz : z < 0
  · rw [ng_yes hz]
    obtain ⟨k, rfl⟩ : ∃ k : Nat, z = -(k : Int) := ⟨z.natAbs, by omega⟩
    rw [Int.natAbs_neg, Int.natAbs_natCast] at h ⊢
    rw [Int.neg_ediv_of_dvd (Int.natCast_dvd_natCast.2 h)]
    show -((k / g : Nat) : Int) = _
    rw [Int.natCast_ediv]
  · rw [ng_no (show 0 ≤ z by omega)]
    obtain ⟨k, rfl⟩ : ∃ k : Nat, z = (k : Int) := ⟨z.natAbs, by omega⟩
    rw [Int.natAbs_natCast]
    show ((k / g : Nat) : Int) = _
    rw [Int.natCast_ediv]
theorem sg_neg (b : Bool) (x : Nat) : sg (!b) x = -sg b x := by unfold sg; cases b <;> simp
/-- A quotient of two integers in lowest terms, as both Makes reckon it. -/
theorem divInt_pair (n m : Int) (hm : m ≠ 0) : (Rat.divInt n m).num = sg (ng n != ng m) (n.natAbs / Nat.gcd n.natAbs m.natAbs) ∧ (Rat.divInt n m).den = m.natAbs / Nat.gcd n.natAbs m.natAbs := by
  have hg : Int.gcd m n = Nat.gcd n.natAbs m.natAbs := by rw [Int.gcd_comm]; rfl
  refine ⟨?_, by rw [Rat.den_divInt, if_neg hm, hg]⟩
  rw [Rat.num_divInt, hg]
  have hd : Nat.gcd n.natAbs m.natAbs ∣ n.natAbs := Nat.gcd_dvd_left _ _
  rcases Int.lt_or_gt_of_ne hm with h | h
  · rw [Int.sign_eq_neg_one_of_neg h, ng_yes h]
    have e : (-1 : Int) * n = -n := by omega
    rw [e, Int.neg_ediv_of_dvd (Int.ofNat_dvd_left.2 hd), ← sg_div n _ hd _ rfl, ← sg_neg]
    congr 1
    cases ng n <;> rfl
  · rw [Int.sign_eq_one_of_pos h, Int.one_mul, ng_no (show 0 ≤ m by omega), ← sg_div n _ hd _ rfl]
    congr 1
    cases ng n <;> rfl

theorem rat_self (q : Rat) : Rat.divInt q.num (q.den : Int) = q := by
  have h := @Rat.mk_eq_divInt q.num q.den q.den_nz q.reduced
  exact h.symm
theorem den_pos' (q : Rat) : 0 < q.den := Nat.pos_of_ne_zero q.den_nz
theorem den_ne (q : Rat) : (q.den : Int) ≠ 0 := by have := den_pos' q; omega
theorem rat_add (q r : Rat) : Rat.divInt (q.num * (r.den : Int) + r.num * (q.den : Int)) ((q.den : Int) * (r.den : Int)) = q + r := by
  rw [← Rat.divInt_add_divInt _ _ (den_ne q) (den_ne r), rat_self, rat_self]
theorem rat_mul (q r : Rat) : Rat.divInt (q.num * r.num) ((q.den : Int) * (r.den : Int)) = q * r := by
  rw [← Rat.divInt_mul_divInt, rat_self, rat_self]
theorem rat_div (q r : Rat) : Rat.divInt (q.num * (r.den : Int)) ((q.den : Int) * r.num) = q / r := by
  rw [Rat.div_def, Rat.inv_def, ← Rat.divInt_mul_divInt, rat_self]
theorem rat_of (n : Int) : Rat.divInt n 1 = (n : Rat) := by
  have h := rat_self (n : Rat)
  exact h
theorem num_zero_iff (q : Rat) : q.num = 0 ↔ q = 0 := Rat.num_eq_zero
theorem num_ne {q : Rat} (h : q ≠ 0) : q.num ≠ 0 := fun e => h ((num_zero_iff q).1 e)

end Go.Proofs.YtpgiolbnmlbjbaaGreatDoor
