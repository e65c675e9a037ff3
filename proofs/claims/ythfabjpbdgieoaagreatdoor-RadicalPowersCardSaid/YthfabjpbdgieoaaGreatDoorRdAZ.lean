/- Powers and square roots of fractions: images of intervals under powers; the floor and the ceiling of a root on a grid. -/
import Derived.Test.YthfabjpbdgieoaaGreatDoorBaseXZ
import Derived.Test.YthfabjpbdgieoaaGreatDoorBaseS
namespace Go.Proofs.YthfabjpbdgieoaaGreatDoor
open Go.RowKit
set_option linter.unusedVariables false
set_option linter.unusedSimpArgs false
set_option maxRecDepth 100000

/-- The power of a fraction, with a natural exponent and with any. -/
def qpow (q : Rat) : Nat → Rat
  | 0 => 1
  | n + 1 => qpow q n * q
def pw (q : Rat) (n : Int) : Rat := if 0 ≤ n then qpow q n.toNat else (qpow q (-n).toNat)⁻¹
theorem qpow_dq (m e : Int) : ∀ n : Nat, qpow (dq m e) n = dq (m ^ n) (e * (n : Int))
  | 0 => by
    rw [qpow, Int.pow_zero, show e * ((0 : Nat) : Int) = 0 from Int.mul_zero e, dq_int]; rfl
  | n + 1 => by
    rw [qpow, qpow_dq m e n, ← dq_mul, ← Int.pow_succ, show e * ((n + 1 : Nat) : Int) = e * (n : Int) + e from by rw [Int.natCast_add, Int.mul_add]; simp]
theorem qpow_div (a d : Int) : ∀ n : Nat, qpow (Rat.divInt a d) n = Rat.divInt (a ^ n) (d ^ n)
  | 0 => by
    rw [qpow, Int.pow_zero, Int.pow_zero, ← int_div]; rfl
  | n + 1 => by rw [qpow, qpow_div a d n, Rat.divInt_mul_divInt, ← Int.pow_succ, ← Int.pow_succ]
theorem r01 : (0 : Rat) ≤ 1 := by decide
theorem qpow_nn {q : Rat} (h : 0 ≤ q) : ∀ n, 0 ≤ qpow q n
  | 0 => r01
  | n + 1 => Rat.mul_nonneg (qpow_nn h n) h
theorem qpow_par (n : Nat) : (n % 2 = 0 → ∀ q, qpow (-q) n = qpow q n) ∧ (n % 2 = 1 → ∀ q, qpow (-q) n = -qpow q n) := by
  induction n with
  | zero => exact ⟨fun _ _ => rfl, fun h => absurd h (by decide)⟩
  | succ n ih =>
    refine ⟨fun h q => ?_, fun h q => ?_⟩
    · rw [qpow, qpow, ih.2 (by omega) q, Rat.neg_mul, Rat.mul_neg, Rat.neg_neg]
    · rw [qpow, qpow, ih.1 (by omega) q, Rat.mul_neg]
theorem qpow_zero {n : Nat} (h : 0 < n) : qpow 0 n = 0 := by
  cases n with
  | zero => omega
  | succ n => rw [qpow, Rat.mul_zero]
theorem pw_nat (q : Rat) (n : Nat) : pw q (n : Int) = qpow q n := by
  unfold pw
  rw [if_pos (by omega)]
  rfl
theorem pw_neg (q : Rat) {k : Nat} (h : 0 < k) : pw q (-(k : Int)) = (qpow q k)⁻¹ := by
  unfold pw
  rw [if_neg (by omega), Int.neg_neg]
  rfl
theorem pw_two (q : Rat) : pw q 2 = q * q := by
  show (1 * q) * q = q * q
  rw [Rat.one_mul]
theorem neg_nn {a : Rat} (h : a ≤ 0) : 0 ≤ -a := by
  have := Rat.neg_le_neg h
  rwa [Rat.neg_zero] at this
/-- The least and the greatest power of the numbers from a to b; s: whether they have one sign. -/
def plo (s : Bool) (a b : Rat) (n : Int) : Rat := if s then rmin (pw a n) (pw b n) else rmin (rmin (pw a n) (pw 0 n)) (pw b n)
def phi (s : Bool) (a b : Rat) (n : Int) : Rat := if s then rmax (pw a n) (pw b n) else rmax (rmax (pw a n) (pw 0 n)) (pw b n)
theorem plo_or (s : Bool) (a b : Rat) (n : Int) : ∃ y, (y = a ∨ y = b ∨ (y = 0 ∧ s = false)) ∧ plo s a b n = pw y n := by
  unfold plo
  cases s
  · rw [if_neg (by decide)]
    rcases rmin_or (rmin (pw a n) (pw 0 n)) (pw b n) with h | h <;> rw [h]
    · rcases rmin_or (pw a n) (pw 0 n) with h | h <;> rw [h]
      · exact ⟨a, Or.inl rfl, rfl⟩
      · exact ⟨0, Or.inr (Or.inr ⟨rfl, rfl⟩), rfl⟩
    · exact ⟨b, Or.inr (Or.inl rfl), rfl⟩
  · rw [if_pos rfl]
    rcases rmin_or (pw a n) (pw b n) with h | h <;> rw [h]
    · exact ⟨a, Or.inl rfl, rfl⟩
    · exact ⟨b, Or.inr (Or.inl rfl), rfl⟩
theorem phi_or (s : Bool) (a b : Rat) (n : Int) : ∃ y, (y = a ∨ y = b ∨ (y = 0 ∧ s = false)) ∧ phi s a b n = pw y n := by
  unfold phi
  cases s
  · rw [if_neg (by decide)]
    rcases rmax_or (rmax (pw a n) (pw 0 n)) (pw b n) with h | h <;> rw [h]
    · rcases rmax_or (pw a n) (pw 0 n) with h | h <;> rw [h]
      · exact ⟨a, Or.inl rfl, rfl⟩
      · exact ⟨0, Or.inr (Or.inr ⟨rfl, rfl⟩), rfl⟩
    · exact ⟨b, Or.inr (Or.inl rfl), rfl⟩
  · rw [if_pos rfl]
    rcases rmax_or (pw a n) (pw b n) with h | h <;> rw [h]
    · exact ⟨a, Or.inl rfl, rfl⟩
    · exact ⟨b, Or.inr (Or.inl rfl), rfl⟩
theorem plo_le (s : Bool) (a b : Rat) (n : Int) : plo s a b n ≤ pw a n ∧ plo s a b n ≤ pw b n ∧ (s = false → plo s a b n ≤ pw 0 n) := by
  unfold plo
  cases s
  · rw [if_neg (by decide)]
    exact ⟨Rat.le_trans (rmin_l _ _) (rmin_l _ _), rmin_r _ _, fun _ => Rat.le_trans (rmin_l _ _) (rmin_r _ _)⟩
  · rw [if_pos rfl]
    exact ⟨rmin_l _ _, rmin_r _ _, fun h => absurd h (by decide)⟩
theorem le_phi (s : Bool) (a b : Rat) (n : Int) : pw a n ≤ phi s a b n ∧ pw b n ≤ phi s a b n ∧ (s = false → pw 0 n ≤ phi s a b n) := by
  unfold phi
  cases s
  · rw [if_neg (by decide)]
    exact ⟨Rat.le_trans (rmax_l _ _) (rmax_l _ _), rmax_r _ _, fun _ => Rat.le_trans (rmax_r _ _) (rmax_l _ _)⟩
  · rw [if_pos rfl]
    exact ⟨rmax_l _ _, rmax_r _ _, fun h => absurd h (by decide)⟩
theorem cut_nn {q : Rat} (h : 0 ≤ q) (p : Int) : 0 ≤ cutQ q p := by
  unfold cutQ
  rw [Rat.le_floor_iff]
  exact Rat.mul_nonneg h (Rat.le_of_lt (dq_pos p))
theorem dq_nn {m : Int} (e : Int) (h : 0 ≤ m) : 0 ≤ dq m e := by
  have := (dq_le_iff 0 m e).2 h
  rwa [dq_zero] at this
/-- The floor of the root of q on the grid of k. -/
def sqR (q : Rat) (k : Int) : Int := (rt 2 (cutQ q (2 * k)).natAbs : Int)
theorem sqR_nn (q : Rat) (k : Int) : 0 ≤ sqR q k := Int.natCast_nonneg _
theorem sqR_le {q : Rat} (h : 0 ≤ q) (k : Int) : sqR q k * sqR q k ≤ cutQ q (2 * k) := by
  have h0 := cut_nn h (2 * k)
  have h1 := rt_le (cutQ q (2 * k)).natAbs (k := 2) (by omega)
  unfold sqR
  rw [Nat.pow_two] at h1
  have h2 := Int.ofNat_le.2 h1
  rw [Int.natAbs_of_nonneg h0, Int.natCast_mul] at h2
  exact h2
/-- The ceiling of the root. -/
def sqU (q : Rat) (k : Int) : Int := if dq (sqR q k) (-k) * dq (sqR q k) (-k) = q then sqR q k else sqR q k + 1
theorem su_nn (q : Rat) (k : Int) : 0 ≤ sqU q k := by
  have := sqR_nn q k
  unfold sqU
  split <;> omega
theorem su_le (q : Rat) (k : Int) : sqU q k ≤ sqR q k + 1 := by
  unfold sqU
  split <;> omega
theorem dq_shl (j : Nat) (m e : Int) : dq (m * 2 ^ j) e = dq m (e + (j : Int)) := dq_eq (F := e) (by rw [show e - e = 0 by omega, show (e + (j : Int) - e).toNat = j by omega]; simp) (by omega) (by omega)
end Go.Proofs.YthfabjpbdgieoaaGreatDoor
