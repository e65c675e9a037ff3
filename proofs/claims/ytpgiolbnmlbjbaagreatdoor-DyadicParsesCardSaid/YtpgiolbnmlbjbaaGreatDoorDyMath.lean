/- The numbers that dyadics stand for: fractions; sums and products of dyadics are exact; what is short is not too large. -/
import Derived.Test.YtpgiolbnmlbjbaaGreatDoorMillDy
import Derived.Test.YtpgiolbnmlbjbaaGreatDoorRefDyD
import Derived.Test.YtpgiolbnmlbjbaaGreatDoorRatMath
namespace Go.Proofs.YtpgiolbnmlbjbaaGreatDoor
open Go.RowKit
set_option linter.unusedVariables false
set_option linter.unusedSimpArgs false
set_option maxRecDepth 100000

/-- The fraction m * 2^e. -/
def dq (m e : Int) : Rat := Rat.divInt (m * 2 ^ e.toNat) ((2 ^ (-e).toNat : Nat) : Int)
theorem two_ne (n : Nat) : (((2 ^ n : Nat) : Int)) ≠ 0 := by
  have := Nat.pow_pos (n := n) (show 0 < 2 by omega)
  omega
theorem cast2 (n : Nat) : (((2 ^ n : Nat) : Int)) = (2 : Int) ^ n := by rw [Int.natCast_pow]; rfl
theorem pow2_ne (n : Nat) : (2 : Int) ^ n ≠ 0 := by rw [← cast2]; exact two_ne n
theorem dq_eq {m e n k F : Int} (h : m * 2 ^ (e - F).toNat = n * 2 ^ (k - F).toNat) (h1 : F ≤ e) (h2 : F ≤ k) : dq m e = dq n k := by
  unfold dq
  rw [Rat.divInt_eq_divInt_iff (two_ne _) (two_ne _), cast2, cast2]
  refine Int.eq_of_mul_eq_mul_right (pow2_ne (-F).toNat) ?_
  have e1 : m * 2 ^ e.toNat * 2 ^ (-k).toNat * 2 ^ (-F).toNat = m * 2 ^ (e - F).toNat * 2 ^ (F.toNat + (-e).toNat + (-k).toNat) := by
    rw [Int.mul_assoc m, Int.mul_assoc m, Int.mul_assoc m, ← Int.pow_add, ← Int.pow_add, ← Int.pow_add]
    congr 2
    omega
  have e2 : n * 2 ^ k.toNat * 2 ^ (-e).toNat * 2 ^ (-F).toNat = n * 2 ^ (k - F).toNat * 2 ^ (F.toNat + (-e).toNat + (-k).toNat) := by
    rw [Int.mul_assoc n, Int.mul_assoc n, Int.mul_assoc n, ← Int.pow_add, ← Int.pow_add, ← Int.pow_add]
    congr 2
    omega
  rw [e1, e2, h]
theorem odd_form (m : Int) : oddM m * 2 ^ tz m.natAbs = m := by
  by_cases h0 : m = 0
  · subst h0; rw [oddM_zero]; simp
  · unfold oddM
    obtain ⟨k, hk⟩ := tz_form (x := m.natAbs) (by omega)
    have hd : m.natAbs / 2 ^ tz m.natAbs = 2 * k + 1 := by
      have := Nat.mul_div_cancel_left (2 * k + 1) (Nat.pow_pos (n := tz m.natAbs) (show 0 < 2 by omega))
      rwa [← hk] at this
    rw [hd]
    have e1 : sg (ng m) (2 * k + 1) * 2 ^ tz m.natAbs = sg (ng m) (2 ^ tz m.natAbs * (2 * k + 1)) := by
      unfold sg
      split
      · rw [Int.natCast_mul, cast2, Int.mul_comm, ← Int.mul_neg]
      · rw [Int.natCast_mul, cast2, Int.mul_comm]
    rw [e1, ← hk, sg_self]
theorem dq_zero (e : Int) : dq 0 e = 0 := by
  unfold dq
  rw [Int.zero_mul, Rat.zero_divInt]
theorem dq_mk {m e : Int} (h : mkR m e = 0) : dq (mkM m e) (mkE m e) = dq m e := by
  unfold mkM mkE
  rw [if_pos h, if_pos h]
  by_cases h0 : m = 0
  · subst h0; rw [oddM_zero, dq_zero, dq_zero]
  · rw [if_neg h0]
    refine dq_eq (F := e) ?_ (by unfold oddE; omega) (Int.le_refl _)
    rw [show (oddE m e - e).toNat = tz m.natAbs from by unfold oddE; omega, odd_form, show (e - e).toNat = 0 from by omega, Int.pow_zero, Int.mul_one]
theorem dq_add (m e n k : Int) : dq (addS m e n k) (min e k) = dq m e + dq n k := by
  have hm : dq m e = dq (m * 2 ^ (e - min e k).toNat) (min e k) := dq_eq (F := min e k) (by rw [show (min e k - min e k).toNat = 0 from by omega, Int.pow_zero, Int.mul_one]) (by omega) (by omega)
  have hn : dq n k = dq (n * 2 ^ (k - min e k).toNat) (min e k) := dq_eq (F := min e k) (by rw [show (min e k - min e k).toNat = 0 from by omega, Int.pow_zero, Int.mul_one]) (by omega) (by omega)
  rw [hm, hn]
  unfold addS dq
  generalize m * 2 ^ (e - min e k).toNat = a
  generalize n * 2 ^ (k - min e k).toNat = b
  have hd := two_ne (-(min e k)).toNat
  generalize ((2 ^ (-(min e k)).toNat : Nat) : Int) = d at *
  generalize (2 : Int) ^ (min e k).toNat = p
  rw [Rat.divInt_add_divInt _ _ hd hd, Rat.divInt_eq_divInt_iff hd (Int.mul_ne_zero hd hd), ← Int.add_mul, Int.add_mul a b p, Int.mul_assoc]
theorem dq_mul (m e n k : Int) : dq (m * n) (e + k) = dq m e * dq n k := by
  unfold dq
  rw [Rat.divInt_mul_divInt, Rat.divInt_eq_divInt_iff (two_ne _) (Int.mul_ne_zero (two_ne _) (two_ne _)), cast2, cast2, cast2]
  have e1 : m * n * 2 ^ (e + k).toNat * (2 ^ (-e).toNat * 2 ^ (-k).toNat) = m * n * 2 ^ ((e + k).toNat + ((-e).toNat + (-k).toNat)) := by
    rw [Int.mul_assoc (m * n), ← Int.pow_add, ← Int.pow_add]
  have e2 : m * 2 ^ e.toNat * (n * 2 ^ k.toNat) * 2 ^ (-(e + k)).toNat = m * n * 2 ^ (e.toNat + k.toNat + (-(e + k)).toNat) := by
    rw [Int.mul_assoc m, ← Int.mul_assoc ((2 : Int) ^ e.toNat) n, Int.mul_comm ((2 : Int) ^ e.toNat) n, Int.mul_assoc n, ← Int.pow_add, ← Int.mul_assoc m n, Int.mul_assoc (m * n), ← Int.pow_add]
  rw [e1, e2]
  congr 2
  omega
theorem dq_neg (m e : Int) : dq (-m) e = -dq m e := by
  unfold dq
  rw [Rat.neg_divInt, Int.neg_mul]
/-- A valid dyadic's fraction is in lowest terms. -/
theorem odd_gcd {x : Nat} (h : x % 2 = 1) (n : Nat) : Nat.gcd x (2 ^ n) = 1 := by
  induction n with
  | zero => simp
  | succ n ih =>
    rw [Nat.pow_succ]
    refine Nat.Coprime.mul_right ih ?_
    show Nat.gcd x 2 = 1
    rw [Nat.gcd_comm, Nat.gcd_rec, h]
    rfl
theorem dq_form {m e : Int} (h : Dv m e) : (dq m e).num = m * 2 ^ e.toNat ∧ (dq m e).den = 2 ^ (-e).toNat := by
  unfold dq
  have hg : Nat.gcd (m * 2 ^ e.toNat).natAbs (2 ^ (-e).toNat) = 1 := by
    rcases Int.lt_or_le e 0 with h0 | h0
    · rw [show e.toNat = 0 from by omega, Int.pow_zero, Int.mul_one]
      refine odd_gcd ?_ _
      rcases h with ⟨_, h2⟩ | ⟨_, h2⟩
      · omega
      · unfold fits8 at h2
        rw [Bool.and_eq_true, Bool.and_eq_true, Bool.and_eq_true] at h2
        have := h2.2.2.2
        unfold bitB at this
        rw [decide_eq_true_iff, Nat.pow_zero, Nat.div_one] at this
        exact this
    · rw [show (-e).toNat = 0 from by omega, Nat.pow_zero, Nat.gcd_one_right]
  obtain ⟨e1, e2⟩ := divInt_pair (m * 2 ^ e.toNat) ((2 ^ (-e).toNat : Nat) : Int) (two_ne _)
  rw [e1, e2, Int.natAbs_natCast, hg, Nat.div_one, Nat.div_one]
  refine ⟨?_, rfl⟩
  have : ng ((2 ^ (-e).toNat : Nat) : Int) = false := ng_no (Int.natCast_nonneg _)
  rw [this, show (ng (m * 2 ^ e.toNat) != false) = ng (m * 2 ^ e.toNat) from by simp]
  exact sg_self _
/-- What is short is not too large. -/
theorem mk_fits {m e : Int} (h : zl m ≤ 1900) (h1 : -4000 ≤ e) (h2 : e ≤ 4000) : mkR m e = 0 := by
  unfold mkR
  rw [if_neg (by omega)]
  by_cases h0 : m = 0
  · rw [if_pos h0]
  · rw [if_neg h0]
    have ht := tz_le8 m.natAbs (by omega)
    have e1 : zl m = len m.natAbs := rfl
    have hb : blen (oddM m).natAbs ≤ 65536 := by
      have := blen_le_len (oddM m).natAbs
      have h3 := zl_odd m
      have e2 : zl (oddM m) = len (oddM m).natAbs := rfl
      omega
    have ho : bitB (oddM m).natAbs 0 = true := by
      obtain ⟨k, hk⟩ := tz_form (x := m.natAbs) (by omega)
      have hd : m.natAbs / 2 ^ tz m.natAbs = 2 * k + 1 := by
        have := Nat.mul_div_cancel_left (2 * k + 1) (Nat.pow_pos (n := tz m.natAbs) (show 0 < 2 by omega))
        rwa [← hk] at this
      unfold bitB
      rw [oddM_abs, hd, Nat.pow_zero, Nat.div_one]
      exact decide_eq_true (by omega)
    have hf : fits8 (oddM m) (oddE m e) = true := by
      unfold fits8 oddE
      rw [decide_eq_true hb, decide_eq_true (by omega), decide_eq_true (by omega), ho]
      rfl
    rw [hf]
    rfl

end Go.Proofs.YtpgiolbnmlbjbaaGreatDoor
