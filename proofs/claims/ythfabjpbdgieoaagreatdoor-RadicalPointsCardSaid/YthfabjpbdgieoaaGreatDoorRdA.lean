/- Powers and square roots of fractions: images of intervals under powers; the floor and the ceiling of a root on a grid. -/
import Derived.Test.YthfabjpbdgieoaaGreatDoorBaseX
import Derived.Test.YthfabjpbdgieoaaGreatDoorBaseS
namespace Go.Proofs.YthfabjpbdgieoaaGreatDoor
open Go.RowKit
set_option linter.unusedVariables false
set_option linter.unusedSimpArgs false
set_option maxRecDepth 100000

/-- The power of a fraction, with a natural exponent and with any. -/
def qpow (q : Rat) : Nat → Rat
  | 0 => 1
  | n + 1 => qpow q n * q
def pw (q : Rat) (n : Int) : Rat := if 0 ≤ n then qpow q n.toNat else (qpow q (-n).toNat)⁻¹
theorem qpow_dq (m e : Int) : ∀ n : Nat, qpow (dq m e) n = dq (m ^ n) (e * (n : Int))
  | 0 => by
    rw [qpow, Int.pow_zero, show e * ((0 : Nat) : Int) = 0 from Int.mul_zero e, dq_int]; rfl
  | n + 1 => by
    rw [qpow, qpow_dq m e n, ← dq_mul, ← Int.pow_succ, show e * ((n + 1 : Nat) : Int) = e * (n : Int) + e from by rw [Int.natCast_add, Int.mul_add]; simp]
theorem qpow_div (a d : Int) : ∀ n : Nat, qpow (Rat.divInt a d) n = Rat.divInt (a ^ n) (d ^ n)
  | 0 => by
    rw [qpow, Int.pow_zero, Int.pow_zero, ← int_div]; rfl
  | n + 1 => by rw [qpow, qpow_div a d n, Rat.divInt_mul_divInt, ← Int.pow_succ, ← Int.pow_succ]
theorem r01 : (0 : Rat) ≤ 1 := by decide
theorem r01' : (0 : Rat) < 1 := by decide
theorem qpow_nn {q : Rat} (h : 0 ≤ q) : ∀ n, 0 ≤ qpow q n
  | 0 => r01
  | n + 1 => Rat.mul_nonneg (qpow_nn h n) h
theorem qpow_pos {q : Rat} (h : 0 < q) : ∀ n, 0 < qpow q n
  | 0 => r01'
  | n + 1 => Rat.mul_pos (qpow_pos h n) h
theorem qpow_mono {a b : Rat} (h0 : 0 ≤ a) (h : a ≤ b) : ∀ n, qpow a n ≤ qpow b n
  | 0 => Rat.le_refl
  | n + 1 => Rat.le_trans (mul_nn (qpow_mono h0 h n) h0) (Rat.mul_le_mul_of_nonneg_left h (qpow_nn (Rat.le_trans h0 h) n))
theorem qpow_par (n : Nat) : (n % 2 = 0 → ∀ q, qpow (-q) n = qpow q n) ∧ (n % 2 = 1 → ∀ q, qpow (-q) n = -qpow q n) := by
  induction n with
  | zero => exact ⟨fun _ _ => rfl, fun h => absurd h (by decide)⟩
  | succ n ih =>
    refine ⟨fun h q => ?_, fun h q => ?_⟩
    · rw [qpow, qpow, ih.2 (by omega) q, Rat.neg_mul, Rat.mul_neg, Rat.neg_neg]
    · rw [qpow, qpow, ih.1 (by omega) q, Rat.mul_neg]
theorem qpow_zero {n : Nat} (h : 0 < n) : qpow 0 n = 0 := by
  cases n with
  | zero => omega
  | succ n => rw [qpow, Rat.mul_zero]
theorem pw_nat (q : Rat) (n : Nat) : pw q (n : Int) = qpow q n := by
  unfold pw
  rw [if_pos (by omega)]
  rfl
theorem pw_neg (q : Rat) {k : Nat} (h : 0 < k) : pw q (-(k : Int)) = (qpow q k)⁻¹ := by
  unfold pw
  rw [if_neg (by omega), Int.neg_neg]
  rfl
theorem inv_neg9 (b : Rat) : (-b)⁻¹ = -(b⁻¹) := by
  by_cases hb : b = 0
  · rw [hb, Rat.neg_zero, Rat.inv_zero, Rat.neg_zero]
  · exact Rat.inv_eq_of_mul_eq_one (by rw [Rat.neg_mul, Rat.mul_neg, Rat.neg_neg, Rat.mul_inv_cancel b hb])
theorem pw_par (n : Int) : (∀ q, pw (-q) n = pw q n) ∨ (∀ q, pw (-q) n = -pw q n) := by
  unfold pw
  by_cases h : 0 ≤ n
  · simp only [if_pos h]
    rcases Nat.mod_two_eq_zero_or_one n.toNat with h1 | h1
    · exact Or.inl ((qpow_par _).1 h1)
    · exact Or.inr ((qpow_par _).2 h1)
  · simp only [if_neg h]
    rcases Nat.mod_two_eq_zero_or_one (-n).toNat with h1 | h1
    · exact Or.inl fun q => by rw [(qpow_par _).1 h1]
    · exact Or.inr fun q => by rw [(qpow_par _).2 h1, inv_neg9]
theorem pw_two (q : Rat) : pw q 2 = q * q := by
  show (1 * q) * q = q * q
  rw [Rat.one_mul]
theorem pw_up {u x v : Rat} {n : Int} (h0 : 0 ≤ u) (h1 : u ≤ x) (h2 : x ≤ v) (hn : n < 0 → 0 < u) : (pw u n ≤ pw x n ∧ pw x n ≤ pw v n) ∨ (pw v n ≤ pw x n ∧ pw x n ≤ pw u n) := by
  unfold pw
  by_cases h : 0 ≤ n
  · simp only [if_pos h]
    exact Or.inl ⟨qpow_mono h0 h1 _, qpow_mono (Rat.le_trans h0 h1) h2 _⟩
  · simp only [if_neg h]
    have hu := hn (by omega)
    have hx := rle_lt hu h1
    exact Or.inr ⟨inv_anti (qpow_pos hx _) (qpow_mono (Rat.le_of_lt hx) h2 _), inv_anti (qpow_pos hu _) (qpow_mono h0 h1 _)⟩
/-- Between two numbers, whichever is the lesser one. -/
def bet (a x b : Rat) : Prop := rmin a b ≤ x ∧ x ≤ rmax a b
theorem bet_or {a x b : Rat} (h : (a ≤ x ∧ x ≤ b) ∨ (b ≤ x ∧ x ≤ a)) : bet a x b := by
  rcases h with ⟨h1, h2⟩ | ⟨h1, h2⟩
  · exact ⟨Rat.le_trans (rmin_l _ _) h1, Rat.le_trans h2 (rmax_r _ _)⟩
  · exact ⟨Rat.le_trans (rmin_r _ _) h1, Rat.le_trans h2 (rmax_l _ _)⟩
theorem neg_le {a b : Rat} (h : -a ≤ -b) : b ≤ a := by
  have := Rat.neg_le_neg h
  rwa [Rat.neg_neg, Rat.neg_neg] at this
theorem neg_nn {a : Rat} (h : a ≤ 0) : 0 ≤ -a := by
  have := Rat.neg_le_neg h
  rwa [Rat.neg_zero] at this
theorem neg_ps {a : Rat} (h : a < 0) : 0 < -a := by
  have := Rat.neg_lt_neg h
  rwa [Rat.neg_zero] at this
theorem pw_seg {u x v : Rat} {n : Int} (hs : 0 ≤ u ∨ v ≤ 0) (h1 : u ≤ x) (h2 : x ≤ v) (hn : n < 0 → 0 < u ∨ v < 0) : bet (pw u n) (pw x n) (pw v n) := by
  apply bet_or
  rcases hs with hs | hs
  · refine pw_up hs h1 h2 fun h => ?_
    rcases hn h with h3 | h3
    · exact h3
    · exact absurd (Rat.le_trans hs (Rat.le_trans h1 h2)) (Rat.not_le.2 h3)
  · have key := pw_up (n := n) (neg_nn hs) (Rat.neg_le_neg h2) (Rat.neg_le_neg h1) fun h => by
      rcases hn h with h3 | h3
      · exact absurd (Rat.le_trans (Rat.le_trans h1 h2) hs) (Rat.not_le.2 h3)
      · exact neg_ps h3
    rcases pw_par n with hp | hp
    · rw [hp, hp, hp] at key
      exact key.symm
    · rw [hp, hp, hp] at key
      rcases key with ⟨k1, k2⟩ | ⟨k1, k2⟩
      · exact Or.inl ⟨neg_le k2, neg_le k1⟩
      · exact Or.inr ⟨neg_le k2, neg_le k1⟩
/-- The least and the greatest power of the numbers from a to b; s: whether they have one sign. -/
def plo (s : Bool) (a b : Rat) (n : Int) : Rat := if s then rmin (pw a n) (pw b n) else rmin (rmin (pw a n) (pw 0 n)) (pw b n)
def phi (s : Bool) (a b : Rat) (n : Int) : Rat := if s then rmax (pw a n) (pw b n) else rmax (rmax (pw a n) (pw 0 n)) (pw b n)
theorem plo_or (s : Bool) (a b : Rat) (n : Int) : ∃ y, (y = a ∨ y = b ∨ (y = 0 ∧ s = false)) ∧ plo s a b n = pw y n := by
  unfold plo
  cases s
  · rw [if_neg (by decide)]
    rcases rmin_or (rmin (pw a n) (pw 0 n)) (pw b n) with h | h <;> rw [h]
    · rcases rmin_or (pw a n) (pw 0 n) with h | h <;> rw [h]
      · exact ⟨a, Or.inl rfl, rfl⟩
      · exact ⟨0, Or.inr (Or.inr ⟨rfl, rfl⟩), rfl⟩
    · exact ⟨b, Or.inr (Or.inl rfl), rfl⟩
  · rw [if_pos rfl]
    rcases rmin_or (pw a n) (pw b n) with h | h <;> rw [h]
    · exact ⟨a, Or.inl rfl, rfl⟩
    · exact ⟨b, Or.inr (Or.inl rfl), rfl⟩
theorem phi_or (s : Bool) (a b : Rat) (n : Int) : ∃ y, (y = a ∨ y = b ∨ (y = 0 ∧ s = false)) ∧ phi s a b n = pw y n := by
  unfold phi
  cases s
  · rw [if_neg (by decide)]
    rcases rmax_or (rmax (pw a n) (pw 0 n)) (pw b n) with h | h <;> rw [h]
    · rcases rmax_or (pw a n) (pw 0 n) with h | h <;> rw [h]
      · exact ⟨a, Or.inl rfl, rfl⟩
      · exact ⟨0, Or.inr (Or.inr ⟨rfl, rfl⟩), rfl⟩
    · exact ⟨b, Or.inr (Or.inl rfl), rfl⟩
  · rw [if_pos rfl]
    rcases rmax_or (pw a n) (pw b n) with h | h <;> rw [h]
    · exact ⟨a, Or.inl rfl, rfl⟩
    · exact ⟨b, Or.inr (Or.inl rfl), rfl⟩
theorem plo_le (s : Bool) (a b : Rat) (n : Int) : plo s a b n ≤ pw a n ∧ plo s a b n ≤ pw b n ∧ (s = false → plo s a b n ≤ pw 0 n) := by
  unfold plo
  cases s
  · rw [if_neg (by decide)]
    exact ⟨Rat.le_trans (rmin_l _ _) (rmin_l _ _), rmin_r _ _, fun _ => Rat.le_trans (rmin_l _ _) (rmin_r _ _)⟩
  · rw [if_pos rfl]
    exact ⟨rmin_l _ _, rmin_r _ _, fun h => absurd h (by decide)⟩
theorem le_phi (s : Bool) (a b : Rat) (n : Int) : pw a n ≤ phi s a b n ∧ pw b n ≤ phi s a b n ∧ (s = false → pw 0 n ≤ phi s a b n) := by
  unfold phi
  cases s
  · rw [if_neg (by decide)]
    exact ⟨Rat.le_trans (rmax_l _ _) (rmax_l _ _), rmax_r _ _, fun _ => Rat.le_trans (rmax_r _ _) (rmax_l _ _)⟩
  · rw [if_pos rfl]
    exact ⟨rmax_l _ _, rmax_r _ _, fun h => absurd h (by decide)⟩
theorem plo_phi (s : Bool) (a b : Rat) (n : Int) : plo s a b n ≤ phi s a b n := Rat.le_trans (plo_le s a b n).1 (le_phi s a b n).1
/-- Every power of a number of the interval lies in the image. -/
theorem image_in {s : Bool} {a b x : Rat} {n : Int} (hs : s = true → 0 ≤ a ∨ b ≤ 0) (hm : s = false → 0 ≤ n) (hn : n < 0 → 0 < a ∨ b < 0) (h1 : a ≤ x) (h2 : x ≤ b) : plo s a b n ≤ pw x n ∧ pw x n ≤ phi s a b n := by
  have l := plo_le s a b n
  have u := le_phi s a b n
  cases s
  · have h0 := hm rfl
    rcases Rat.le_total (a := 0) (b := x) with hx | hx
    · have k := pw_seg (n := n) (Or.inl Rat.le_refl) hx h2 (fun h => by omega)
      exact ⟨Rat.le_trans (le_rmin (l.2.2 rfl) l.2.1) k.1, Rat.le_trans k.2 (rmax_le (u.2.2 rfl) u.2.1)⟩
    · have k := pw_seg (n := n) (Or.inr Rat.le_refl) h1 hx (fun h => by omega)
      exact ⟨Rat.le_trans (le_rmin l.1 (l.2.2 rfl)) k.1, Rat.le_trans k.2 (rmax_le u.1 (u.2.2 rfl))⟩
  · have k := pw_seg (n := n) (hs rfl) h1 h2 hn
    exact ⟨Rat.le_trans (le_rmin l.1 l.2.1) k.1, Rat.le_trans k.2 (rmax_le u.1 u.2.1)⟩

theorem sq_le {x y : Rat} (h0 : 0 ≤ x) (h : x ≤ y) : x * x ≤ y * y := Rat.le_trans (mul_nn h h0) (Rat.mul_le_mul_of_nonneg_left h (Rat.le_trans h0 h))
theorem sq_lt {x y : Rat} (h0 : 0 ≤ x) (h : x < y) : x * x < y * y := by
  have hy := rlt_le h0 h
  refine rlt_le (mul_nn (Rat.le_of_lt h) h0) ?_
  exact Rat.mul_lt_mul_of_pos_left h hy
theorem le_sq {x y : Rat} (h0 : 0 ≤ y) (h : x * x ≤ y * y) : x ≤ y := by
  rw [← Rat.not_lt]
  exact fun h1 => Rat.not_le.2 (sq_lt h0 h1) h
theorem cut_nn {q : Rat} (h : 0 ≤ q) (p : Int) : 0 ≤ cutQ q p := by
  unfold cutQ
  rw [Rat.le_floor_iff]
  exact Rat.mul_nonneg h (Rat.le_of_lt (dq_pos p))
theorem dq_nn {m : Int} (e : Int) (h : 0 ≤ m) : 0 ≤ dq m e := by
  have := (dq_le_iff 0 m e).2 h
  rwa [dq_zero] at this
/-- The floor of the root of q on the grid of k. -/
def sqR (q : Rat) (k : Int) : Int := (rt 2 (cutQ q (2 * k)).natAbs : Int)
theorem sqR_nn (q : Rat) (k : Int) : 0 ≤ sqR q k := Int.natCast_nonneg _
theorem sqR_le {q : Rat} (h : 0 ≤ q) (k : Int) : sqR q k * sqR q k ≤ cutQ q (2 * k) := by
  have h0 := cut_nn h (2 * k)
  have h1 := rt_le (cutQ q (2 * k)).natAbs (k := 2) (by omega)
  unfold sqR
  rw [Nat.pow_two] at h1
  have h2 := Int.ofNat_le.2 h1
  rw [Int.natAbs_of_nonneg h0, Int.natCast_mul] at h2
  exact h2
theorem sqR_lt {q : Rat} (h : 0 ≤ q) (k : Int) : cutQ q (2 * k) + 1 ≤ (sqR q k + 1) * (sqR q k + 1) := by
  have h0 := cut_nn h (2 * k)
  have h1 := rt_lt (cutQ q (2 * k)).natAbs (k := 2) (by omega)
  unfold sqR
  rw [Nat.pow_two] at h1
  have h2 := Int.ofNat_lt.2 h1
  rw [Int.natAbs_of_nonneg h0, Int.natCast_mul, Int.natCast_add] at h2
  exact h2
theorem two_k (k : Int) : -k + -k = -(2 * k) := by omega
theorem sq_lo {q : Rat} (h : 0 ≤ q) (k : Int) : dq (sqR q k) (-k) * dq (sqR q k) (-k) ≤ q := by
  rw [← dq_mul, two_k]
  exact Rat.le_trans ((dq_le_iff _ _ _).2 (sqR_le h k)) (cut_lo q (2 * k))
theorem sq_hi {q : Rat} (h : 0 ≤ q) (k : Int) : q < dq (sqR q k + 1) (-k) * dq (sqR q k + 1) (-k) := by
  rw [← dq_mul, two_k]
  refine rle_lt ?_ ((dq_le_iff _ _ _).2 (sqR_lt h k))
  rw [dq_succ]
  exact cut_hi q (2 * k)
/-- The ceiling of the root. -/
def sqU (q : Rat) (k : Int) : Int := if dq (sqR q k) (-k) * dq (sqR q k) (-k) = q then sqR q k else sqR q k + 1
theorem su_hi {q : Rat} (h : 0 ≤ q) (k : Int) : q ≤ dq (sqU q k) (-k) * dq (sqU q k) (-k) := by
  unfold sqU
  split
  · rename_i h1
    rw [h1]; exact Rat.le_refl
  · exact Rat.le_of_lt (sq_hi h k)
theorem su_nn (q : Rat) (k : Int) : 0 ≤ sqU q k := by
  have := sqR_nn q k
  unfold sqU
  split <;> omega
theorem su_le (q : Rat) (k : Int) : sqU q k ≤ sqR q k + 1 := by
  unfold sqU
  split <;> omega
/-- A root lies between its floor and its ceiling. -/
theorem root_has {q y : Rat} (hy : 0 ≤ y) (h : y * y = q) (k : Int) : dq (sqR q k) (-k) ≤ y ∧ y ≤ dq (sqU q k) (-k) := by
  have h0 : 0 ≤ q := by rw [← h]; exact Rat.mul_nonneg hy hy
  exact ⟨le_sq hy (by rw [h]; exact sq_lo h0 k), le_sq (dq_nn _ (su_nn q k)) (by rw [h]; exact su_hi h0 k)⟩
theorem sq_order {q q' : Rat} (h0 : 0 ≤ q) (h : q ≤ q') (k : Int) : dq (sqR q k) (-k) ≤ dq (sqU q' k) (-k) :=
  le_sq (dq_nn _ (su_nn q' k)) (Rat.le_trans (sq_lo h0 k) (Rat.le_trans h (su_hi (Rat.le_trans h0 h) k)))
theorem dq_shl (j : Nat) (m e : Int) : dq (m * 2 ^ j) e = dq m (e + (j : Int)) := dq_eq (F := e) (by rw [show e - e = 0 by omega, show (e + (j : Int) - e).toNat = j by omega]; simp) (by omega) (by omega)
/-- When the root lies on the grid, as the reference finds it. -/
theorem sq_flag {m e : Int} (hv : Dv m e) (hm : 0 ≤ m) (k : Int) : ((cutQ (dq m e) (2 * k)).natAbs - rt 2 (cutQ (dq m e) (2 * k)).natAbs * rt 2 (cutQ (dq m e) (2 * k)).natAbs = 0 ∧ (-(2 * k) ≤ e ∨ m = 0)) ↔ dq (sqR (dq m e) k) (-k) * dq (sqR (dq m e) k) (-k) = dq m e := by
  have hq := dq_nn e hm
  have h0 := cut_nn hq (2 * k)
  have h1 := rt_le (cutQ (dq m e) (2 * k)).natAbs (k := 2) (by omega)
  rw [Nat.pow_two] at h1
  rw [← dq_mul, two_k]
  unfold sqR
  constructor
  · rintro ⟨a1, a2⟩
    have a3 : ((rt 2 (cutQ (dq m e) (2 * k)).natAbs : Int)) * (rt 2 (cutQ (dq m e) (2 * k)).natAbs : Int) = cutQ (dq m e) (2 * k) := by
      rw [← Int.natCast_mul]
      omega
    rw [a3]
    rcases a2 with a2 | a2
    · obtain ⟨j, hj⟩ : ∃ j : Nat, e + 2 * k = (j : Int) := ⟨(e + 2 * k).toNat, by omega⟩
      rw [cutD_up j hj, dq_shl]
      congr 1
      omega
    · subst a2
      rw [dq_zero]
      rw [show cutQ 0 (2 * k) = 0 from by have := cutD_up (m := 0) (e := -(2 * k)) (p := 2 * k) 0 (by omega); rwa [dq_zero, Int.zero_mul] at this, dq_zero]
  · intro h
    have h2 := cutD_up (m := (rt 2 (cutQ (dq m e) (2 * k)).natAbs : Int) * (rt 2 (cutQ (dq m e) (2 * k)).natAbs : Int)) (e := -(2 * k)) (p := 2 * k) 0 (by omega)
    rw [h, Int.pow_zero, Int.mul_one, ← Int.natCast_mul] at h2
    refine ⟨by omega, ?_⟩
    by_cases h3 : -(2 * k) ≤ e
    · exact Or.inl h3
    · refine Or.inr ?_
      by_cases hm0 : m = 0
      · exact hm0
      · have ho := dv_odd hv hm0
        obtain ⟨j, hj⟩ : ∃ j : Nat, -(2 * k) = e + ((j + 1 : Nat) : Int) := ⟨(-(2 * k) - e - 1).toNat, by omega⟩
        rw [hj, ← dq_shl] at h
        have h4 := dq_inj h
        rw [Int.pow_succ, ← Int.mul_assoc] at h4
        omega

end Go.Proofs.YthfabjpbdgieoaaGreatDoor
