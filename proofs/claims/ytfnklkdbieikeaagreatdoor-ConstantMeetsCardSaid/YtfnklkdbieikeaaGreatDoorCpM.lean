/- The program's series, as functions of numbers. -/
import Derived.Test.YtfnklkdbieikeaaGreatDoorCoM
import Derived.Test.YtfnklkdbieikeaaGreatDoorBaseM
namespace Go.Proofs.YtfnklkdbieikeaaGreatDoor
open Go.RowKit
set_option linter.unusedVariables false
set_option linter.unusedSimpArgs false
set_option maxRecDepth 100000
attribute [local go_sem ↓] Go.wp_at_zero Go.wp_at_succ

/-- The quotients of terms: of the exponential, and of the (area) tangent. -/
def exP (n : Int) (k : Nat) : Int × Int := if k = 0 then (1, 1) else (1, (k : Int) * n)
def tnP (n sg : Int) (k : Nat) : Int × Int := if k = 0 then (n, n * n + sg) else (sg * 2 * (k : Int), (2 * (k : Int) + 1) * (n * n + sg))
/-- The next term. -/
def stP (p : Nat → Int × Int) (k : Nat) (t : Int) : Int := t * (p k).1 / (p k).2
/-- The sum of the terms; none where they do not end in time. -/
def smP (p : Nat → Int × Int) : Nat → Nat → Int → Int → Option Int
  | 0, _, _, _ => none
  | f + 1, k, t, s => if stP p k t = 0 then some s else smP p f (k + 1) (stP p k t) (s + stP p k t)
/-- What is asked of the quotients. -/
def GdP (p : Nat → Int × Int) : Prop := ∀ k, k ≤ 1000 → ((p k).1.natAbs : Int) ≤ (p k).2 ∧ 0 < (p k).2 ∧ (p k).2 ≤ 4611686018427387904
theorem st_abs {p : Nat → Int × Int} {k : Nat} {t : Int} {j : Nat} (h : GdP p) (hk : k ≤ 1000) (ht : AbP t j) : AbP (stP p k t) j := by
  obtain ⟨h1, h2, h3⟩ := h k hk
  unfold AbP stP at *
  generalize (p k).1 = a at *
  generalize (p k).2 = b at *
  have x0 : ((t * a).natAbs : Int) ≤ (t.natAbs : Int) * b := by
    rw [Int.natAbs_mul, Int.natCast_mul]
    exact Int.mul_le_mul_of_nonneg_left h1 (Int.natCast_nonneg _)
  have x1 : t * a / b ≤ (t.natAbs : Int) := Int.ediv_le_of_le_mul h2 (by omega)
  have x2 : -(t.natAbs : Int) ≤ t * a / b := by
    rw [Int.le_ediv_iff_mul_le h2, Int.neg_mul]
    omega
  omega
/-- What is known ahead of each round. -/
def SpI (p : Nat → Int × Int) (v f k : Nat) (t s S : Int) : Prop := AbP t v ∧ AbP s (v + k) ∧ f + k = 600 ∧ smP p f k t s = some S
theorem SpI.step {p : Nat → Int × Int} {v f k : Nat} {t s S : Int} (hg : GdP p) (h : SpI p v f k t s S) : ∃ g, f = g + 1 ∧ k ≤ 600 ∧ AbP (stP p k t) v ∧
    (stP p k t = 0 → S = s) ∧ (stP p k t ≠ 0 → SpI p v g (k + 1) (stP p k t) (s + stP p k t) S) := by
  obtain ⟨h1, h2, h3, h4⟩ := h
  match f with
  | 0 => cases h4
  | g + 1 =>
    have h5 := st_abs hg (show k ≤ 1000 by omega) h1
    refine ⟨g, rfl, by omega, h5, fun h0 => ?_, fun h0 => ⟨h5, h2.add (h5.up (by omega)), by omega, ?_⟩⟩
    · rw [smP, if_pos h0] at h4
      exact (Option.some.inj h4).symm
    · rw [smP, if_neg h0] at h4
      exact h4
theorem SpI.zl {p : Nat → Int × Int} {v f k : Nat} {t s S : Int} (h : SpI p v f k t s S) (hv : v ≤ 5000) : zl t ≤ 200 ∧ zl s ≤ 200 ∧ k ≤ 600 := by
  obtain ⟨h1, h2, h3, h4⟩ := h
  have x1 := h1.zl
  have x2 := h2.zl
  omega
theorem smP_abs {p : Nat → Int × Int} {v : Nat} (hg : GdP p) : ∀ (f k : Nat) (t s S : Int), SpI p v f k t s S → AbP S (v + 600)
  | f, k, t, s, S, h => by
    obtain ⟨g, rfl, hk, _, h1, h2⟩ := h.step hg
    by_cases h0 : stP p k t = 0
    · rw [h1 h0]
      exact h.2.1.up (by omega)
    · exact smP_abs hg g _ _ _ _ (h2 h0)
theorem sp_first {p : Nat → Int × Int} {v : Nat} {S : Int} (h : smP p 600 0 (2 ^ v) 0 = some S) : SpI p v 600 0 (2 ^ v) 0 S := ⟨(tm_one v).abs.1, AbP.zero _, rfl, h⟩
theorem exP_good : GdP (exP 1) := fun k hk => by
  unfold exP
  split <;> simp only <;> omega
theorem tnP_good {n sg : Int} (h : (n, sg) = (5, 1) ∨ (n, sg) = (239, 1) ∨ (n, sg) = (26, -1) ∨ (n, sg) = (4801, -1) ∨ (n, sg) = (8749, -1)) : GdP (tnP n sg) := fun k hk => by
  unfold tnP
  rcases h with h | h | h | h | h <;> obtain ⟨rfl, rfl⟩ := Prod.mk.inj h <;> split <;> simp only <;> omega
/-- The ends at the precision k of a sum in units of 2^-(k + 32). -/
def loC (T : Int) : Int := (T - 262144) / 4294967296
def hiC (T : Int) : Int := cdv (T + 262144) 4294967296
/-- The floor of the product of an integer and a fraction. -/
theorem cut_st (p : Nat → Int × Int) (k : Nat) (t : Int) (h : 0 < (p k).2) : cutQ (Rat.divInt (t * (Rat.divInt (p k).1 (p k).2).num) (((1 : Nat) : Int) * ((Rat.divInt (p k).1 (p k).2).den : Int))) 0 = stP p k t := by
  obtain ⟨d, hd⟩ : ∃ d : Nat, (p k).2 = (d : Int) := ⟨(p k).2.toNat, by omega⟩
  have e : Rat.divInt (t * (Rat.divInt (p k).1 (p k).2).num) (((1 : Nat) : Int) * ((Rat.divInt (p k).1 (p k).2).den : Int)) = Rat.divInt (t * (p k).1) (d : Int) := by
    rw [← Rat.divInt_mul_divInt, Rat.num_divInt_den, hd, ← Int.mul_one (d : Int), Int.mul_comm (d : Int), ← Rat.divInt_mul_divInt, Int.one_mul]
    rfl
  unfold stP
  rw [e, cut_eq _ d (by omega) 0, hd]
  simp

end Go.Proofs.YtfnklkdbieikeaaGreatDoor
