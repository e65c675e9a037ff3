/- Base texts, joined: DyMath, DyMath2, DyLaw, GridMath. -/
import Derived.Test.YtmlddkiccjpoeaaGreatDoorBaseES
import Derived.Test.YtmlddkiccjpoeaaGreatDoorBaseDS
/- The numbers that dyadics stand for: fractions; sums and products of dyadics are exact; what is short is not too large. -/
namespace Go.Proofs.YtmlddkiccjpoeaaGreatDoor
open Go.RowKit
set_option linter.unusedVariables false
set_option linter.unusedSimpArgs false
set_option maxRecDepth 100000

/-- The fraction m * 2^e. -/
def dq (m e : Int) : Rat := Rat.divInt (m * 2 ^ e.toNat) ((2 ^ (-e).toNat : Nat) : Int)
theorem two_ne (n : Nat) : (((2 ^ n : Nat) : Int)) ≠ 0 := by
  have := Nat.pow_pos (n := n) (show 0 < 2 by omega)
  omega
theorem cast2 (n : Nat) : (((2 ^ n : Nat) : Int)) = (2 : Int) ^ n := by rw [Int.natCast_pow]; rfl
theorem pow2_ne (n : Nat) : (2 : Int) ^ n ≠ 0 := by rw [← cast2]; exact two_ne n
theorem dq_eq {m e n k F : Int} (h : m * 2 ^ (e - F).toNat = n * 2 ^ (k - F).toNat) (h1 : F ≤ e) (h2 : F ≤ k) : dq m e = dq n k := by
  unfold dq
  rw [Rat.divInt_eq_divInt_iff (two_ne _) (two_ne _), cast2, cast2]
  refine Int.eq_of_mul_eq_mul_right (pow2_ne (-F).toNat) ?_
  have e1 : m * 2 ^ e.toNat * 2 ^ (-k).toNat * 2 ^ (-F).toNat = m * 2 ^ (e - F).toNat * 2 ^ (F.toNat + (-e).toNat + (-k).toNat) := by
    rw [Int.mul_assoc m, Int.mul_assoc m, Int.mul_assoc m, ← Int.pow_add, ← Int.pow_add, ← Int.pow_add]
    congr 2
    omega
  have e2 : n * 2 ^ k.toNat * 2 ^ (-e).toNat * 2 ^ (-F).toNat = n * 2 ^ (k - F).toNat * 2 ^ (F.toNat + (-e).toNat + (-k).toNat) := by
    rw [Int.mul_assoc n, Int.mul_assoc n, Int.mul_assoc n, ← Int.pow_add, ← Int.pow_add, ← Int.pow_add]
    congr 2
    omega
  rw [e1, e2, h]
theorem odd_form (m : Int) : oddM m * 2 ^ tz m.natAbs = m := by
  by_cases h0 : m = 0
  · subst h0; rw [oddM_zero]; simp
  · unfold oddM
    obtain ⟨k, hk⟩ := tz_form (x := m.natAbs) (by omega)
    have hd : m.natAbs / 2 ^ tz m.natAbs = 2 * k + 1 := by
      have := Nat.mul_div_cancel_left (2 * k + 1) (Nat.pow_pos (n := tz m.natAbs) (show 0 < 2 by omega))
      rwa [← hk] at this
    rw [hd]
    have e1 : sg (ng m) (2 * k + 1) * 2 ^ tz m.natAbs = sg (ng m) (2 ^ tz m.natAbs * (2 * k + 1)) := by
      unfold sg
      split
      · rw [Int.natCast_mul, cast2, Int.mul_comm, ← Int.mul_neg]
      · rw [Int.natCast_mul, cast2, Int.mul_comm]
    rw [e1, ← hk, sg_self]
theorem dq_zero (e : Int) : dq 0 e = 0 := by
  unfold dq
  rw [Int.zero_mul, Rat.zero_divInt]
theorem dq_mk {m e : Int} (h : mkR m e = 0) : dq (mkM m e) (mkE m e) = dq m e := by
  unfold mkM mkE
  rw [if_pos h, if_pos h]
  by_cases h0 : m = 0
  · subst h0; rw [oddM_zero, dq_zero, dq_zero]
  · rw [if_neg h0]
    refine dq_eq (F := e) ?_ (by unfold oddE; omega) (Int.le_refl _)
    rw [show (oddE m e - e).toNat = tz m.natAbs from by unfold oddE; omega, odd_form, show (e - e).toNat = 0 from by omega, Int.pow_zero, Int.mul_one]
theorem dq_mul (m e n k : Int) : dq (m * n) (e + k) = dq m e * dq n k := by
  unfold dq
  rw [Rat.divInt_mul_divInt, Rat.divInt_eq_divInt_iff (two_ne _) (Int.mul_ne_zero (two_ne _) (two_ne _)), cast2, cast2, cast2]
  have e1 : m * n * 2 ^ (e + k).toNat * (2 ^ (-e).toNat * 2 ^ (-k).toNat) = m * n * 2 ^ ((e + k).toNat + ((-e).toNat + (-k).toNat)) := by
    rw [Int.mul_assoc (m * n), ← Int.pow_add, ← Int.pow_add]
  have e2 : m * 2 ^ e.toNat * (n * 2 ^ k.toNat) * 2 ^ (-(e + k)).toNat = m * n * 2 ^ (e.toNat + k.toNat + (-(e + k)).toNat) := by
    rw [Int.mul_assoc m, ← Int.mul_assoc ((2 : Int) ^ e.toNat) n, Int.mul_comm ((2 : Int) ^ e.toNat) n, Int.mul_assoc n, ← Int.pow_add, ← Int.mul_assoc m n, Int.mul_assoc (m * n), ← Int.pow_add]
  rw [e1, e2]
  congr 2
  omega
theorem dq_neg (m e : Int) : dq (-m) e = -dq m e := by
  unfold dq
  rw [Rat.neg_divInt, Int.neg_mul]
/-- A valid dyadic's fraction is in lowest terms. -/
theorem odd_gcd {x : Nat} (h : x % 2 = 1) (n : Nat) : Nat.gcd x (2 ^ n) = 1 := by
  induction n with
  | zero => simp
  | succ n ih =>
    rw [Nat.pow_succ]
    refine Nat.Coprime.mul_right ih ?_
    show Nat.gcd x 2 = 1
    rw [Nat.gcd_comm, Nat.gcd_rec, h]
    rfl
theorem dq_form {m e : Int} (h : Dv m e) : (dq m e).num = m * 2 ^ e.toNat ∧ (dq m e).den = 2 ^ (-e).toNat := by
  unfold dq
  have hg : Nat.gcd (m * 2 ^ e.toNat).natAbs (2 ^ (-e).toNat) = 1 := by
    rcases Int.lt_or_le e 0 with h0 | h0
    · rw [show e.toNat = 0 from by omega, Int.pow_zero, Int.mul_one]
      refine odd_gcd ?_ _
      rcases h with ⟨_, h2⟩ | ⟨_, h2⟩
      · omega
      · unfold fits8 at h2
        rw [Bool.and_eq_true, Bool.and_eq_true, Bool.and_eq_true] at h2
        have := h2.2.2.2
        unfold bitB at this
        rw [decide_eq_true_iff, Nat.pow_zero, Nat.div_one] at this
        exact this
    · rw [show (-e).toNat = 0 from by omega, Nat.pow_zero, Nat.gcd_one_right]
  obtain ⟨e1, e2⟩ := divInt_pair (m * 2 ^ e.toNat) ((2 ^ (-e).toNat : Nat) : Int) (two_ne _)
  rw [e1, e2, Int.natAbs_natCast, hg, Nat.div_one, Nat.div_one]
  refine ⟨?_, rfl⟩
  have : ng ((2 ^ (-e).toNat : Nat) : Int) = false := ng_no (Int.natCast_nonneg _)
  rw [this, show (ng (m * 2 ^ e.toNat) != false) = ng (m * 2 ^ e.toNat) from by simp]
  exact sg_self _
end Go.Proofs.YtmlddkiccjpoeaaGreatDoor


/- The order of dyadics; equal numbers have one valid dyadic; the dyadic of a dyadic's fraction. -/
namespace Go.Proofs.YtmlddkiccjpoeaaGreatDoor
open Go.RowKit
set_option linter.unusedVariables false
set_option linter.unusedSimpArgs false
set_option maxRecDepth 100000

theorem pow2_pos (n : Nat) : (0 : Int) < 2 ^ n := by
  rw [← cast2]
  have := Nat.pow_pos (n := n) (show 0 < 2 by omega)
  omega
theorem dv_odd {m e : Int} (h : Dv m e) (h0 : m ≠ 0) : m.natAbs % 2 = 1 := by
  rcases h with ⟨h2, _⟩ | ⟨_, h2⟩
  · exact absurd h2 h0
  · unfold fits8 at h2
    rw [Bool.and_eq_true, Bool.and_eq_true, Bool.and_eq_true] at h2
    have := h2.2.2.2
    unfold bitB at this
    rw [decide_eq_true_iff, Nat.pow_zero, Nat.div_one] at this
    exact this
theorem dv_zero {m e : Int} (h : Dv m e) (h0 : m = 0) : e = 0 := by
  rcases h with ⟨_, h2⟩ | ⟨h2, _⟩
  · exact h2
  · exact absurd h0 h2
theorem tz_odd {x : Nat} (h : x % 2 = 1) (k : Nat) : tz (x * 2 ^ k) = k := by
  have : x * 2 ^ k = 2 ^ k * (2 * (x / 2) + 1) := by
    rw [Nat.mul_comm]
    congr 1
    omega
  rw [this]
  exact tz_mul _ _
theorem tz_two (j : Nat) : tz (2 ^ j) = j := by
  have := tz_odd (x := 1) rfl j
  rwa [Nat.one_mul] at this
theorem abs_shl (m : Int) (k : Nat) : (m * 2 ^ k).natAbs = m.natAbs * 2 ^ k := by
  rw [Int.natAbs_mul, Int.natAbs_pow]
  rfl
/-- A number has one valid dyadic. -/
theorem dv_uniq {m e n k : Int} (h1 : Dv m e) (h2 : Dv n k) (h : dq m e = dq n k) : m = n ∧ e = k := by
  obtain ⟨a1, a2⟩ := dq_form h1
  obtain ⟨b1, b2⟩ := dq_form h2
  rw [h, b1] at a1
  rw [h, b2] at a2
  have hx : (-k).toNat = (-e).toNat := by
    have := congrArg tz a2
    rwa [tz_two, tz_two] at this
  by_cases hm : m = 0
  · have he := dv_zero h1 hm
    rw [hm, Int.zero_mul] at a1
    have hn : n = 0 := by
      rcases Int.mul_eq_zero.1 a1 with h3 | h3
      · exact h3
      · exact absurd h3 (pow2_ne _)
    exact ⟨by rw [hm, hn], by rw [he, dv_zero h2 hn]⟩
  · have hn : n ≠ 0 := fun h3 => by
      rw [h3, Int.zero_mul] at a1
      rcases Int.mul_eq_zero.1 a1.symm with h4 | h4
      · exact hm h4
      · exact absurd h4 (pow2_ne _)
    have om := dv_odd h1 hm
    have on := dv_odd h2 hn
    have ht : k.toNat = e.toNat := by
      have h3 := congrArg (fun z : Int => tz z.natAbs) a1
      simp only [abs_shl] at h3
      rwa [tz_odd on, tz_odd om] at h3
    have hk : e = k := by omega
    rw [ht] at a1
    exact ⟨(Int.eq_of_mul_eq_mul_right (pow2_ne _) a1).symm, hk⟩
end Go.Proofs.YtmlddkiccjpoeaaGreatDoor


/- What the walks of layer 8's laws lean on. -/
namespace Go.Proofs.YtmlddkiccjpoeaaGreatDoor
open Go.RowKit
set_option linter.unusedVariables false
set_option linter.unusedSimpArgs false
set_option maxRecDepth 100000
attribute [local go_sem ↓] Go.wp_at_zero Go.wp_at_succ

theorem len_two (j : Nat) : len (2 ^ j) ≤ j / 32 + 1 := by
  refine len_le ?_
  rw [W32_pow]
  exact Nat.pow_lt_pow_right (by omega) (by omega)
end Go.Proofs.YtmlddkiccjpoeaaGreatDoor


/- Rounding: floors of fractions; multiples of a power of two. -/
namespace Go.Proofs.YtmlddkiccjpoeaaGreatDoor
open Go.RowKit
set_option linter.unusedVariables false
set_option linter.unusedSimpArgs false
set_option maxRecDepth 100000

theorem divInt_le {a b c d : Int} (hb : 0 < b) (hd : 0 < d) : (Rat.divInt a b ≤ Rat.divInt c d) ↔ a * d ≤ c * b := by
  rw [Rat.le_iff_sub_nonneg, Rat.divInt_sub_divInt _ _ (by omega) (by omega), Rat.divInt_nonneg_iff_of_pos_right (Int.mul_pos hd hb)]
  omega
theorem int_div (x : Int) : (x : Rat) = Rat.divInt x 1 := by
  rw [show (1 : Int) = ((1 : Nat) : Int) from rfl, Rat.divInt_ofNat, Rat.mkRat_one]
theorem rle_lt {a b c : Rat} (h1 : a < b) (h2 : b ≤ c) : a < c := by
  rw [← Rat.not_le]
  exact fun h => Rat.not_le.2 h1 (Rat.le_trans h2 h)
/-- The greatest integer that is not greater than q * 2^p. -/
def cutQ (q : Rat) (p : Int) : Int := (q * dq 1 p).floor
theorem dq_int (C : Int) : dq C 0 = (C : Rat) := by
  rw [int_div]
  unfold dq
  simp
theorem dq_scale (C e : Int) : dq C e = (C : Rat) * dq 1 e := by
  have h := dq_mul C 0 1 e
  rw [Int.mul_one, Int.zero_add, dq_int] at h
  exact h
theorem dq_unit (p : Int) : dq 1 p * dq 1 (-p) = 1 := by
  have h := dq_mul 1 p 1 (-p)
  rw [Int.mul_one, Int.add_right_neg, dq_int] at h
  rw [← h]; rfl
theorem dq_pos (p : Int) : 0 < dq 1 p := by
  rw [← Rat.not_le, show (0 : Rat) = Rat.divInt 0 1 from (Rat.zero_divInt 1).symm]
  unfold dq
  rw [divInt_le (by rw [cast2]; exact Int.pow_pos (by omega)) (by omega), Int.one_mul, Int.mul_one, Int.zero_mul]
  have := pow2_pos p.toNat
  omega
theorem dq_half (p : Int) : dq 1 (-p) = dq 1 (-(p + 1)) + dq 1 (-(p + 1)) := by
  have h : dq 2 (-(p + 1)) = dq 1 (-p) := dq_eq (F := -(p + 1)) (by rw [show -(p + 1) - -(p + 1) = 0 by omega, show -p - -(p + 1) = 1 by omega]; rfl) (by omega) (by omega)
  rw [← h, dq_scale]
  show ((2 : Int) : Rat) * dq 1 (-(p + 1)) = dq 1 (-(p + 1)) + dq 1 (-(p + 1))
  rw [show (2 : Int) = 1 + 1 from rfl, Rat.intCast_add, Rat.add_mul, show ((1 : Int) : Rat) = 1 from rfl, Rat.one_mul]
theorem dq_succ (C e : Int) : dq (C + 1) e = dq C e + dq 1 e := by
  rw [dq_scale (C + 1), dq_scale C, Rat.intCast_add, Rat.add_mul, show ((1 : Int) : Rat) = 1 from rfl, Rat.one_mul]
theorem mul_unit (q : Rat) (p : Int) : q * dq 1 p * dq 1 (-p) = q := by rw [Rat.mul_assoc, dq_unit, Rat.mul_one]
theorem cut_lo (q : Rat) (p : Int) : dq (cutQ q p) (-p) ≤ q := by
  rw [dq_scale]
  have h : ((cutQ q p : Int) : Rat) ≤ q * dq 1 p := Rat.floor_le _
  have h2 := Rat.mul_le_mul_of_nonneg_right h (Rat.le_of_lt (dq_pos (-p)))
  rwa [mul_unit] at h2
theorem cut_hi (q : Rat) (p : Int) : q < dq (cutQ q p) (-p) + dq 1 (-p) := by
  rw [← dq_succ, dq_scale]
  have h : q * dq 1 p < ((cutQ q p + 1 : Int) : Rat) := Rat.lt_floor_add_one _
  have h2 := Rat.mul_lt_mul_of_pos_right h (dq_pos (-p))
  rwa [mul_unit] at h2
/-- The nearest number: at most half a unit away. -/
theorem near_lo (q : Rat) (p : Int) : dq ((cutQ q (p + 1) + 1) / 2) (-p) ≤ q + dq 1 (-(p + 1)) := by
  obtain ⟨C, hC⟩ : ∃ C, (cutQ q (p + 1) + 1) / 2 = C := ⟨_, rfl⟩
  rw [hC]
  have e1 : dq C (-p) = dq (2 * C) (-(p + 1)) := dq_eq (F := -(p + 1)) (by rw [show -(p + 1) - -(p + 1) = 0 by omega, show -p - -(p + 1) = 1 by omega]; show C * 2 = 2 * C * 1; omega) (by omega) (by omega)
  rw [e1]
  have h1 := cut_lo q (p + 1)
  have h2 : dq (2 * C) (-(p + 1)) ≤ dq (cutQ q (p + 1) + 1) (-(p + 1)) := by
    rw [dq_scale, dq_scale (cutQ q (p + 1) + 1)]
    exact Rat.mul_le_mul_of_nonneg_right (Rat.intCast_le_intCast.2 (by omega)) (Rat.le_of_lt (dq_pos _))
  rw [dq_succ] at h2
  exact Rat.le_trans h2 (Rat.add_le_add_right.2 h1)
theorem near_hi (q : Rat) (p : Int) : q < dq ((cutQ q (p + 1) + 1) / 2) (-p) + dq 1 (-(p + 1)) := by
  obtain ⟨C, hC⟩ : ∃ C, (cutQ q (p + 1) + 1) / 2 = C := ⟨_, rfl⟩
  rw [hC]
  have e1 : dq C (-p) = dq (2 * C) (-(p + 1)) := dq_eq (F := -(p + 1)) (by rw [show -(p + 1) - -(p + 1) = 0 by omega, show -p - -(p + 1) = 1 by omega]; show C * 2 = 2 * C * 1; omega) (by omega) (by omega)
  rw [e1]
  have h1 := cut_hi q (p + 1)
  have h2 : dq (cutQ q (p + 1)) (-(p + 1)) ≤ dq (2 * C) (-(p + 1)) := by
    rw [dq_scale, dq_scale (2 * C)]
    exact Rat.mul_le_mul_of_nonneg_right (Rat.intCast_le_intCast.2 (by omega)) (Rat.le_of_lt (dq_pos _))
  exact rle_lt h1 (Rat.add_le_add_right.2 h2)
/-- Which precisions are permitted; what a rounding function returns of the integer C that it has found; what lies on the grid. -/
def permB (p : Int) : Bool := decide (-2048 ≤ p) && decide (p ≤ 8192)
def onB (m e p : Int) : Bool := permB p && (decide (m = 0) || decide (-p ≤ e))
end Go.Proofs.YtmlddkiccjpoeaaGreatDoor

