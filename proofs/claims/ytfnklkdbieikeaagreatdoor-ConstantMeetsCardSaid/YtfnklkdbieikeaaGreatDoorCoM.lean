/- Spans: floors and ceilings of quotients; the series, as functions of numbers. -/
import Derived.Test.YtfnklkdbieikeaaGreatDoorBaseI
import Derived.Test.YtfnklkdbieikeaaGreatDoorBaseM
namespace Go.Proofs.YtfnklkdbieikeaaGreatDoor
open Go.RowKit
set_option linter.unusedVariables false
set_option linter.unusedSimpArgs false
set_option maxRecDepth 100000
attribute [local go_sem ↓] Go.wp_at_zero Go.wp_at_succ

/-- The ceiling of a quotient. -/
def cdv (x n : Int) : Int := -(-x / n)
theorem cdv_le {x n k : Int} (hn : 0 < n) : cdv x n ≤ k ↔ x ≤ k * n := by
  unfold cdv
  have h : -k ≤ -x / n ↔ -k * n ≤ -x := Int.le_ediv_iff_mul_le hn
  rw [Int.neg_mul] at h
  omega
theorem le_cdv {x n : Int} (hn : 0 < n) : x ≤ cdv x n * n := (cdv_le hn).1 (Int.le_refl _)
theorem cdv_zero (n : Int) : cdv 0 n = 0 := by unfold cdv; simp
theorem div_cdv {x y n : Int} (hn : 0 < n) (h : x ≤ y) : x / n ≤ cdv y n := by
  have h1 := Int.ediv_mul_le x (show n ≠ 0 by omega)
  have h2 := le_cdv (x := y) hn
  exact Int.le_of_mul_le_mul_right (Int.le_trans h1 (Int.le_trans h h2)) hn
theorem cdv_one (x : Int) : cdv x 1 = x := by unfold cdv; simp
/-- Whether a span is tiny. -/
def tnB (a b : Int) : Bool := decide (a.natAbs ≤ 1) && decide (b.natAbs ≤ 1)
def AbP (x : Int) (j : Nat) : Prop := x.natAbs ≤ 2 ^ j
theorem AbP.zl {x : Int} {j : Nat} (h : AbP x j) : zl x ≤ j / 32 + 1 := Nat.le_trans (len_mono h) (len_two j)
theorem AbP.up {x : Int} {j k : Nat} (h : AbP x j) (hk : j ≤ k) : AbP x k := Nat.le_trans h (Nat.pow_le_pow_right (by omega) hk)
theorem AbP.add {x y : Int} {j : Nat} (h1 : AbP x j) (h2 : AbP y j) : AbP (x + y) (j + 1) := by
  unfold AbP at *
  rw [Nat.pow_succ]
  omega
theorem AbP.neg {x : Int} {j : Nat} (h : AbP x j) : AbP (-x) j := by
  unfold AbP at *
  rw [Int.natAbs_neg]; exact h
theorem AbP.zero (j : Nat) : AbP 0 j := Nat.zero_le _
theorem AbP.mul {x y : Int} {j k : Nat} (h1 : AbP x j) (h2 : AbP y k) : AbP (x * y) (j + k) := by
  unfold AbP at *
  rw [Int.natAbs_mul, Nat.pow_add]
  exact Nat.mul_le_mul h1 h2
/-- A term of a series: not negative, and at most 2^f. -/
def Tm (a b : Int) (f : Nat) : Prop := 0 ≤ a ∧ a ≤ b ∧ b ≤ ((2 ^ f : Nat) : Int)
theorem Tm.abs {a b : Int} {f : Nat} (h : Tm a b f) : AbP a f ∧ AbP b f := by
  unfold Tm at h; unfold AbP
  obtain ⟨P, hP⟩ : ∃ P : Nat, 2 ^ f = P := ⟨_, rfl⟩
  rw [hP] at h ⊢
  omega
theorem Tm.up {a b : Int} {f g : Nat} (h : Tm a b f) (hg : f ≤ g) : Tm a b g := by
  have := Nat.pow_le_pow_right (n := 2) (by omega) hg
  unfold Tm at *
  obtain ⟨P, hP⟩ : ∃ P : Nat, 2 ^ f = P := ⟨_, rfl⟩
  obtain ⟨Q, hQ⟩ : ∃ P : Nat, 2 ^ g = P := ⟨_, rfl⟩
  rw [hP] at this h
  rw [hQ] at this ⊢
  omega
theorem Tm.low {a b n : Int} {f : Nat} (hn : 0 < n) (h : Tm a b f) : Tm (a / n) (cdv b n) f := by
  refine ⟨Int.ediv_nonneg h.1 (by omega), div_cdv hn h.2.1, (cdv_le hn).2 (Int.le_trans h.2.2 ?_)⟩
  have h0 : (0 : Int) ≤ ((2 ^ f : Nat) : Int) := Int.natCast_nonneg _
  have := Int.mul_le_mul_of_nonneg_left (show (1 : Int) ≤ n by omega) h0
  rwa [Int.mul_one] at this
theorem Tm.half {a b n : Int} {f : Nat} (hn : 2 ≤ n) (h : Tm a b (f + 1)) : Tm (a / n) (cdv b n) f := by
  refine ⟨Int.ediv_nonneg h.1 (by omega), div_cdv (by omega) h.2.1, (cdv_le (by omega)).2 (Int.le_trans h.2.2 ?_)⟩
  have h0 : (0 : Int) ≤ ((2 ^ f : Nat) : Int) := Int.natCast_nonneg _
  have := Int.mul_le_mul_of_nonneg_left hn h0
  rw [Nat.pow_succ]
  omega
theorem Tm.pos {a b : Int} {f : Nat} (h : Tm a b f) (ht : tnB a b = false) : ∃ g, f = g + 1 := by
  match f with
  | g + 1 => exact ⟨g, rfl⟩
  | 0 =>
    have e : ((2 ^ 0 : Nat) : Int) = 1 := rfl
    obtain ⟨h0, h1, h2⟩ := h
    rw [e] at h2
    unfold tnB at ht
    rw [decide_eq_true (show a.natAbs ≤ 1 by omega), decide_eq_true (show b.natAbs ≤ 1 by omega)] at ht
    cases ht
theorem tm_one (v : Nat) : Tm (2 ^ v) (2 ^ v) v := by
  have e : ((2 ^ v : Nat) : Int) = 2 ^ v := by simp
  have := pow2_pos v
  unfold Tm
  omega
/-- The series, as functions of numbers: f terms at most, from the number k on. -/
def atR (n : Int) : Nat → Nat → Int → Int → Int → Int → Int × Int
  | 0, _, _, _, s, u => (s, u)
  | f + 1, k, a, b, s, u => if tnB a b then (s, u) else if k % 2 = 1 then atR n f (k + 1) (a / n / n) (cdv (cdv b n) n) (s + -(cdv b (2 * k + 1))) (u + -(a / (2 * k + 1))) else atR n f (k + 1) (a / n / n) (cdv (cdv b n) n) (s + a / (2 * k + 1)) (u + cdv b (2 * k + 1))
def exR : Nat → Nat → Int → Int → Int → Int → Int × Int
  | 0, _, _, _, s, u => (s, u)
  | f + 1, k, a, b, s, u => if tnB a b then (s, u) else exR f (k + 1) (a / k) (cdv b k) (s + a / k) (u + cdv b k)
def lnR : Nat → Nat → Int → Int → Int → Int → Int × Int
  | 0, _, _, _, s, u => (s, u)
  | f + 1, k, a, b, s, u => if tnB a b then (s, u) else lnR f (k + 1) (a / 9) (cdv b 9) (s + a / (2 * k + 1)) (u + cdv b (2 * k + 1))
theorem atR_end {n : Int} {f k : Nat} {a b s u : Int} (h : tnB a b = true) : atR n f k a b s u = (s, u) := by
  cases f <;> simp [atR, h]
theorem exR_end {f k : Nat} {a b s u : Int} (h : tnB a b = true) : exR f k a b s u = (s, u) := by
  cases f <;> simp [exR, h]
theorem lnR_end {f k : Nat} {a b s u : Int} (h : tnB a b = true) : lnR f k a b s u = (s, u) := by
  cases f <;> simp [lnR, h]
/-- What is known ahead of each round. -/
def SeI (v f k : Nat) (a b s u : Int) : Prop := Tm a b f ∧ (f ≤ v ∧ f + k ≤ v + 3) ∧ AbP s (v + k) ∧ AbP u (v + k)
theorem SeI.sizes {v f k : Nat} {a b s u : Int} (h : SeI v f k a b s u) (hv : v ≤ 10000) : zl a ≤ 400 ∧ zl b ≤ 400 ∧ zl s ≤ 700 ∧ zl u ≤ 700 ∧ a ≤ b ∧ k ≤ 10003 := by
  obtain ⟨h1, h2, h3, h4⟩ := h
  have x1 := (h1.abs.1).zl
  have x2 := (h1.abs.2).zl
  have x3 := h3.zl
  have x4 := h4.zl
  have x5 := h1.2.1
  omega
theorem at_step {n : Int} {v f k : Nat} {a b s u : Int} (hn : 2 ≤ n) (h : SeI v f k a b s u) (ht : tnB a b = false) : ∃ g, f = g + 1 ∧
    Tm (a / n) (cdv b n) v ∧ Tm (a / (2 * k + 1)) (cdv b (2 * k + 1)) (v + 3) ∧
    (k % 2 = 1 → SeI v g (k + 1) (a / n / n) (cdv (cdv b n) n) (s + -(cdv b (2 * k + 1))) (u + -(a / (2 * k + 1))) ∧ atR n (g + 1) k a b s u = atR n g (k + 1) (a / n / n) (cdv (cdv b n) n) (s + -(cdv b (2 * k + 1))) (u + -(a / (2 * k + 1)))) ∧
    (k % 2 ≠ 1 → SeI v g (k + 1) (a / n / n) (cdv (cdv b n) n) (s + a / (2 * k + 1)) (u + cdv b (2 * k + 1)) ∧ atR n (g + 1) k a b s u = atR n g (k + 1) (a / n / n) (cdv (cdv b n) n) (s + a / (2 * k + 1)) (u + cdv b (2 * k + 1))) := by
  obtain ⟨h1, h2, h3, h4⟩ := h
  obtain ⟨g, rfl⟩ := h1.pos ht
  have hx := h1.low (n := 2 * (k : Int) + 1) (by omega)
  have hy := h1.half hn
  have hz := hy.low (n := n) (by omega)
  have e1 := hx.abs.1.up (show g + 1 ≤ v + k by omega)
  have e2 := hx.abs.2.up (show g + 1 ≤ v + k by omega)
  refine ⟨g, rfl, hy.up (by omega), hx.up (by omega), fun hk => ?_, fun hk => ?_⟩
  · refine ⟨⟨hz, by omega, h3.add e2.neg, h4.add e1.neg⟩, ?_⟩
    rw [atR, ht, if_neg (by simp), if_pos hk]
  · refine ⟨⟨hz, by omega, h3.add e1, h4.add e2⟩, ?_⟩
    rw [atR, ht, if_neg (by simp), if_neg hk]
theorem ln_step {v f k : Nat} {a b s u : Int} (h : SeI v f k a b s u) (ht : tnB a b = false) : ∃ g, f = g + 1 ∧
    Tm (a / (2 * k + 1)) (cdv b (2 * k + 1)) (v + 3) ∧
    SeI v g (k + 1) (a / 9) (cdv b 9) (s + a / (2 * k + 1)) (u + cdv b (2 * k + 1)) ∧ lnR (g + 1) k a b s u = lnR g (k + 1) (a / 9) (cdv b 9) (s + a / (2 * k + 1)) (u + cdv b (2 * k + 1)) := by
  obtain ⟨h1, h2, h3, h4⟩ := h
  obtain ⟨g, rfl⟩ := h1.pos ht
  have hx := h1.low (n := 2 * (k : Int) + 1) (by omega)
  have hz := h1.half (n := 9) (by omega)
  have e1 := hx.abs.1.up (show g + 1 ≤ v + k by omega)
  have e2 := hx.abs.2.up (show g + 1 ≤ v + k by omega)
  refine ⟨g, rfl, hx.up (by omega), ⟨hz, by omega, h3.add e1, h4.add e2⟩, ?_⟩
  rw [lnR, ht, if_neg (by simp)]
/-- The same for e: the first quotient is by 1. -/
def SeE (v f k : Nat) (a b s u : Int) : Prop := 1 ≤ k ∧ (∃ g, Tm a b g ∧ (g + 1 ≤ f ∨ (2 ≤ k ∧ g ≤ f)) ∧ g ≤ v) ∧ f + k ≤ v + 3 ∧ AbP s (v + k) ∧ AbP u (v + k)
theorem SeE.sizes {v f k : Nat} {a b s u : Int} (h : SeE v f k a b s u) (hv : v ≤ 10000) : zl a ≤ 400 ∧ zl b ≤ 400 ∧ zl s ≤ 700 ∧ zl u ≤ 700 ∧ a ≤ b ∧ k ≤ 10003 ∧ 1 ≤ k := by
  obtain ⟨h0, ⟨g, h1, _, hg⟩, h2, h3, h4⟩ := h
  have x1 := (h1.abs.1).zl
  have x2 := (h1.abs.2).zl
  have x3 := h3.zl
  have x4 := h4.zl
  have x5 := h1.2.1
  omega
theorem ex_step {v f k : Nat} {a b s u : Int} (h : SeE v f k a b s u) (ht : tnB a b = false) : ∃ g, f = g + 1 ∧
    SeE v g (k + 1) (a / k) (cdv b k) (s + a / k) (u + cdv b k) ∧ exR (g + 1) k a b s u = exR g (k + 1) (a / k) (cdv b k) (s + a / k) (u + cdv b k) := by
  obtain ⟨h0, ⟨j, h1, hj, hjv⟩, h2, h3, h4⟩ := h
  obtain ⟨i, rfl⟩ := h1.pos ht
  obtain ⟨g, rfl⟩ : ∃ g, f = g + 1 := ⟨f - 1, by omega⟩
  have hx := h1.low (n := (k : Int)) (by omega)
  have e1 := hx.abs.1.up (show i + 1 ≤ v + k by omega)
  have e2 := hx.abs.2.up (show i + 1 ≤ v + k by omega)
  refine ⟨g, rfl, ⟨by omega, ?_, by omega, h3.add e1, h4.add e2⟩, ?_⟩
  · rcases hj with hj | ⟨hj, hj2⟩
    · exact ⟨i + 1, hx, by omega, hjv⟩
    · exact ⟨i, h1.half (n := (k : Int)) (by omega), by omega, by omega⟩
  · rw [exR, ht, if_neg (by simp)]
/-- The spans of the arctangent of 1 / n, of pi, e and the logarithm of 2. -/
def atS (n : Int) (v : Nat) : Int × Int := atR n v 0 (2 ^ v / n) (cdv (2 ^ v) n) 0 0
def atL (n : Int) (v : Nat) : Int := (atS n v).1 - 2
def atH (n : Int) (v : Nat) : Int := (atS n v).2 + 2
def piL (v : Nat) : Int := atL 5 v * 16 + -(atH 239 v * 4)
def piH (v : Nat) : Int := atH 5 v * 16 + -(atL 239 v * 4)
def exS (v : Nat) : Int × Int := exR (v + 2) 1 (2 ^ v) (2 ^ v) (2 ^ v) (2 ^ v)
def exL (v : Nat) : Int := (exS v).1 - 3
def exH (v : Nat) : Int := (exS v).2 + 3
def lnS (v : Nat) : Int × Int := lnR v 0 (2 ^ v / 3) (cdv (2 ^ v) 3) 0 0
def lnL (v : Nat) : Int := ((lnS v).1 - 2) * 2
def lnH (v : Nat) : Int := ((lnS v).2 + 2) * 2
theorem atR_abs {n : Int} {v : Nat} (hn : 2 ≤ n) : ∀ (f k : Nat) (a b s u : Int), SeI v f k a b s u → AbP (atR n f k a b s u).1 (2 * v + 3) ∧ AbP (atR n f k a b s u).2 (2 * v + 3)
  | f, k, a, b, s, u, h => by
    cases ht : tnB a b
    · obtain ⟨g, rfl, _, _, h1, h2⟩ := at_step hn h ht
      by_cases hk : k % 2 = 1
      · rw [(h1 hk).2]
        exact atR_abs hn g _ _ _ _ _ (h1 hk).1
      · rw [(h2 hk).2]
        exact atR_abs hn g _ _ _ _ _ (h2 hk).1
    · rw [atR_end ht]
      obtain ⟨_, h2, h3, h4⟩ := h
      exact ⟨h3.up (by omega), h4.up (by omega)⟩
theorem lnR_abs {v : Nat} : ∀ (f k : Nat) (a b s u : Int), SeI v f k a b s u → AbP (lnR f k a b s u).1 (2 * v + 3) ∧ AbP (lnR f k a b s u).2 (2 * v + 3)
  | f, k, a, b, s, u, h => by
    cases ht : tnB a b
    · obtain ⟨g, rfl, _, h1, h2⟩ := ln_step h ht
      rw [h2]
      exact lnR_abs g _ _ _ _ _ h1
    · rw [lnR_end ht]
      obtain ⟨_, h2, h3, h4⟩ := h
      exact ⟨h3.up (by omega), h4.up (by omega)⟩
theorem exR_abs {v : Nat} : ∀ (f k : Nat) (a b s u : Int), SeE v f k a b s u → AbP (exR f k a b s u).1 (2 * v + 3) ∧ AbP (exR f k a b s u).2 (2 * v + 3)
  | f, k, a, b, s, u, h => by
    cases ht : tnB a b
    · obtain ⟨g, rfl, h1, h2⟩ := ex_step h ht
      rw [h2]
      exact exR_abs g _ _ _ _ _ h1
    · rw [exR_end ht]
      obtain ⟨_, _, h2, h3, h4⟩ := h
      exact ⟨h3.up (by omega), h4.up (by omega)⟩
theorem at_first {n : Int} (hn : 2 ≤ n) (v : Nat) : SeI v v 0 (2 ^ v / n) (cdv (2 ^ v) n) 0 0 := ⟨(tm_one v).low (by omega), by omega, AbP.zero _, AbP.zero _⟩
theorem ex_first (v : Nat) : SeE v (v + 2) 1 (2 ^ v) (2 ^ v) (2 ^ v) (2 ^ v) := ⟨by omega, ⟨v, tm_one v, by omega, by omega⟩, by omega, (tm_one v).abs.1.up (by omega), (tm_one v).abs.1.up (by omega)⟩


end Go.Proofs.YtfnklkdbieikeaaGreatDoor
