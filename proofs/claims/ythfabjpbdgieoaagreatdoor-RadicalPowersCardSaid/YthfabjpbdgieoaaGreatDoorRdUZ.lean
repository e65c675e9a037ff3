/- What the walks of RadicalBounds, RadicalPowers, RadicalPoints, RadicalProducts lean on. -/
import Derived.Test.YthfabjpbdgieoaaGreatDoorRdTZ
import Derived.Test.YthfabjpbdgieoaaGreatDoorBaseWZ
import Derived.Test.YthfabjpbdgieoaaGreatDoorBaseE
import Derived.Test.YthfabjpbdgieoaaGreatDoorRefGrB
import Derived.Test.YthfabjpbdgieoaaGreatDoorBaseXZ
namespace Go.Proofs.YthfabjpbdgieoaaGreatDoor
open Go.RowKit
set_option linter.unusedVariables false
set_option linter.unusedSimpArgs false
set_option maxRecDepth 100000
attribute [local go_sem ↓] Go.wp_at_zero Go.wp_at_succ

/-- The parts of a moderate dyadic. -/
theorem pb_gen {M E : Int} {i : Nat} (hv : Dv M E) (hb : Bd (dq M E) i) (hE : -64 ≤ E) : zl M + (E.natAbs / 32 + 1) ≤ i / 32 + 6 ∧ E ≤ (i : Int) := by
  rcases hv with ⟨rfl, rfl⟩ | ⟨hm, _⟩
  · rw [zl_zero]; omega
  · obtain ⟨h1, h2⟩ := hb
    rcases Int.lt_or_le E 0 with h0 | h0
    · obtain ⟨t, ht⟩ : ∃ t : Nat, E = -(t : Int) := ⟨(-E).toNat, by omega⟩
      subst ht
      have := bd_parts (C := M) (k := (t : Int)) ⟨h1, h2⟩ (by omega)
      omega
    · have e1 : dq 1 (i : Int) = dq ((2 ^ (i + E.natAbs) : Nat) : Int) (-(E.natAbs : Int)) := by rw [dq_shl1]; congr 1; omega
      obtain ⟨t, rfl⟩ : ∃ t : Nat, E = (t : Int) := ⟨E.toNat, by omega⟩
      have e2 : dq M (t : Int) = dq (M * 2 ^ t) 0 := by rw [dq_shl]; congr 1; omega
      have e3 : dq 1 (i : Int) = dq ((2 ^ i : Nat) : Int) 0 := by rw [dq_shl1]; congr 1; omega
      rw [e2, e3, dq_le_iff] at h2
      rw [e2, e3, ← dq_neg, dq_le_iff] at h1
      have h3 : M.natAbs * 2 ^ t ≤ 2 ^ i := by
        have : (M * 2 ^ t).natAbs = M.natAbs * 2 ^ t := by rw [Int.natAbs_mul, Int.natAbs_pow]; rfl
        omega
      have h4 : 2 ^ t ≤ 2 ^ i := Nat.le_trans (Nat.le_mul_of_pos_left _ (by omega)) h3
      have h5 : t ≤ i := (Nat.pow_le_pow_iff_right (by omega)).1 h4
      have h6 : M.natAbs ≤ 2 ^ (i - t) := by
        have h7 : 2 ^ i = 2 ^ (i - t) * 2 ^ t := by rw [← Nat.pow_add]; congr 1; omega
        rw [h7] at h3
        exact Nat.le_of_mul_le_mul_right h3 (Nat.pow_pos (by omega))
      have h8 : zl M ≤ (i - t) / 32 + 1 := Nat.le_trans (len_mono h6) (len_two (i - t))
      rw [Int.natAbs_natCast]
      omega
theorem pb_of {M E j : Int} {i : Nat} (hv : Dv M E) (hb : Bd (dq M E) i) (hE : -64 ≤ E) (hi : i ≤ 199) (hj : powB j = true) : PB M E j := by
  obtain ⟨h1, h2⟩ := pb_gen hv hb hE
  unfold powB at hj
  rw [Bool.and_eq_true, decide_eq_true_iff, decide_eq_true_iff] at hj
  refine ⟨by omega, by omega, hj, ?_⟩
  exact Nat.le_trans (Nat.mul_le_mul (show zl M + (E.natAbs / 32 + 1) ≤ 12 by omega) (show j.natAbs ≤ 64 by omega)) (by omega)
theorem small_bd {m e n f : Int} {i : Nat} (h1 : Bd (dq m e) i) (h2 : Bd (dq n f) i) (hi : i ≤ 2047) (he : -8192 ≤ e) (hf : -8192 ≤ f) (hd : dcm m e n f ≤ 0) : smallB m e n f = true := by
  have o : ∀ {m e : Int}, -8192 ≤ e → onB m e 8192 = true := fun h => by
    unfold onB
    rw [show permB 8192 = true from by decide, Bool.true_and, decide_eq_true h, Bool.or_true]
  rw [small_iff (o he) (o hf) ((dcm_le _ _ _ _).1 hd)]
  exact ⟨bd_top h1 hi, bd_top h2 hi⟩


end Go.Proofs.YthfabjpbdgieoaaGreatDoor
