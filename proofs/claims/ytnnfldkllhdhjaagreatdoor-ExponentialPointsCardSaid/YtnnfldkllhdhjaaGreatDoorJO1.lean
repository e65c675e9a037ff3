/- Joined: ExM, CoM, ExA, ExP, CpM, CpN, ExZ, IvPD, IvPC, ArPB, ArApp, ArPD, ArPF, ArDv, ArPHp, CoA, RefExA, ExPA (what the law leans on). -/
import Derived.Test.YtnnfldkllhdhjaaGreatDoorBaseIO
import Derived.Test.YtnnfldkllhdhjaaGreatDoorBaseJO
import Derived.Test.YtnnfldkllhdhjaaGreatDoorBaseEO
import Derived.Test.YtnnfldkllhdhjaaGreatDoorBaseMO
import Derived.Test.YtnnfldkllhdhjaaGreatDoorBaseVO
import Derived.Test.YtnnfldkllhdhjaaGreatDoorBaseGO
import Derived.Test.YtnnfldkllhdhjaaGreatDoorRefGrAO
import Derived.Test.YtnnfldkllhdhjaaGreatDoorBaseWO
import Derived.Test.YtnnfldkllhdhjaaGreatDoorBaseXO
import Derived.Test.YtnnfldkllhdhjaaGreatDoorGrPCO
import Derived.Test.YtnnfldkllhdhjaaGreatDoorBaseZO
import Derived.Test.YtnnfldkllhdhjaaGreatDoorBaseUO
import Derived.Deep.Cut
import Derived.Deep.CutRange
import Derived.Deep.DrawnRows
import Derived.Deep.RegionHeld3
import Derived.Deep.RegionWith
import Derived.Laws.AppendOwn
import Derived.Laws.OwnMore
import Derived.Lib.SliceRun
import Derived.Lib.SmallJoins
namespace Go.Proofs.YtnnfldkllhdhjaaGreatDoor
open Go.RowKit
set_option linter.unusedVariables false
set_option linter.unusedSimpArgs false
set_option maxRecDepth 100000
attribute [local go_sem ↓] Go.wp_at_zero Go.wp_at_succ

/-- b to the power 2^n. -/
def sqn : Nat → Rat → Rat
  | 0, b => b
  | n + 1, b => sqn n b * sqn n b
theorem sqn_succ (n : Nat) (b : Rat) : sqn (n + 1) b = sqn n b * sqn n b := rfl
theorem sqn_nn {n : Nat} {b : Rat} (h : 0 ≤ b) : 0 ≤ sqn n b := by
  induction n with
  | zero => exact h
  | succ n ih => exact Rat.mul_nonneg ih ih
theorem rmul_le {a b c d : Rat} (h1 : a ≤ b) (h2 : c ≤ d) (h3 : 0 ≤ c) (h4 : 0 ≤ b) : a * c ≤ b * d :=
  Rat.le_trans (Rat.mul_le_mul_of_nonneg_right h1 h3) (Rat.mul_le_mul_of_nonneg_left h2 h4)
theorem rsq_nn (x : Rat) : 0 ≤ x * x := by
  by_cases h3 : 0 ≤ x
  · exact Rat.mul_nonneg h3 h3
  · have := Rat.mul_nonneg (show 0 ≤ -x by grind) (show 0 ≤ -x by grind)
    grind
theorem sqn_mono {n : Nat} {b c : Rat} (h : 0 ≤ b) (h2 : b ≤ c) : sqn n b ≤ sqn n c := by
  induction n with
  | zero => exact h2
  | succ n ih => exact rmul_le ih ih (sqn_nn h) (Rat.le_trans (sqn_nn h) ih)
theorem sqn_two (n : Nat) (b : Rat) : sqn (n + 1) b = sqn n (b * b) := by
  induction n with
  | zero => rfl
  | succ n ih => rw [sqn_succ, ih, sqn_succ]
theorem sqn_mul (n : Nat) (b c : Rat) : sqn n (b * c) = sqn n b * sqn n c := by
  induction n with
  | zero => rfl
  | succ n ih => rw [sqn_succ, sqn_succ, sqn_succ, ih]; grind
theorem sqn_one (n : Nat) : sqn n 1 = 1 := by
  induction n with
  | zero => rfl
  | succ n ih => rw [sqn_succ, ih]; grind
theorem sqn_pos {n : Nat} {b : Rat} (h : 0 < b) : 0 < sqn n b := by
  induction n with
  | zero => exact h
  | succ n ih => exact Rat.mul_pos ih ih
/-- 2^-n. -/
def hn : Nat → Rat
  | 0 => 1
  | n + 1 => hn n / 2
theorem hn_succ (n : Nat) : hn (n + 1) = hn n / 2 := rfl
theorem hn_pos (n : Nat) : 0 < hn n := by
  induction n with
  | zero => decide
  | succ n ih => rw [hn_succ]; grind
theorem hn_le {n k : Nat} (h : n ≤ k) : hn k ≤ hn n := by
  induction k with
  | zero => rw [show n = 0 by omega]; exact Rat.le_refl
  | succ k ih =>
    by_cases h2 : n ≤ k
    · have := ih h2
      have := hn_pos k
      rw [hn_succ]
      grind
    · rw [show n = k + 1 by omega]; exact Rat.le_refl
/-- Bernoulli's inequality. -/
theorem bern (n : Nat) {y : Rat} (h : -1 ≤ y) : 1 + y ≤ sqn n (1 + y * hn n) := by
  induction n generalizing y with
  | zero => show 1 + y ≤ 1 + y * 1; grind
  | succ n ih =>
    have hp := hn_pos n
    have hq := hn_le (Nat.zero_le n)
    have h1 : hn 0 = 1 := rfl
    refine Rat.le_trans (ih h) ?_
    rw [sqn_two, hn_succ]
    refine sqn_mono ?_ ?_
    · have : -1 * hn n ≤ y * hn n := Rat.mul_le_mul_of_nonneg_right h (Rat.le_of_lt hp)
      grind
    · have := rsq_nn (y * (hn n / 2))
      grind
/-- The lower and upper approximations of the exponential function. -/
def exF (n : Nat) (x : Rat) : Rat := sqn n (1 + x * hn n)
theorem exF_dbl (n : Nat) (x : Rat) : exF (n + 1) (2 * x) = exF n x * exF n x := by
  unfold exF
  rw [hn_succ, show (1 : Rat) + 2 * x * (hn n / 2) = 1 + x * hn n by grind]
  rfl
theorem exF_up {n : Nat} {x : Rat} (h : 0 ≤ 1 + x * hn n) : exF n x ≤ exF (n + 1) x := by
  unfold exF
  rw [sqn_two, hn_succ]
  refine sqn_mono h ?_
  have := rsq_nn (x * (hn n / 2))
  grind
theorem exF_mono {n : Nat} {x y : Rat} (h : 0 ≤ 1 + x * hn n) (h2 : x ≤ y) : exF n x ≤ exF n y := by
  refine sqn_mono h ?_
  have := Rat.mul_le_mul_of_nonneg_right h2 (Rat.le_of_lt (hn_pos n))
  grind
theorem nat_above (x : Rat) : ∃ M : Nat, x ≤ (M : Rat) ∧ -x ≤ (M : Rat) := by
  have up : ∀ y : Rat, ∃ M : Nat, y ≤ (M : Rat) := fun y => by
    refine ⟨(y.floor + 1).toNat, ?_⟩
    have h1 : ¬ ((y.floor + 1 : Int) : Rat) ≤ y := fun h => by
      have := Rat.le_floor_iff.2 h
      omega
    have h2 : y ≤ ((y.floor + 1 : Int) : Rat) := Rat.le_of_lt (Rat.not_le.1 h1)
    refine Rat.le_trans h2 ?_
    have h3 : y.floor + 1 ≤ (((y.floor + 1).toNat : Nat) : Int) := Int.self_le_toNat _
    have := Rat.intCast_le_intCast.2 h3
    rwa [Rat.intCast_natCast] at this
  obtain ⟨M, h1⟩ := up x
  obtain ⟨K, h2⟩ := up (-x)
  refine ⟨M + K, ?_, ?_⟩
  · have : (0 : Rat) ≤ (K : Rat) := by exact_mod_cast Nat.zero_le K
    have e : ((M + K : Nat) : Rat) = (M : Rat) + (K : Rat) := by push_cast; rfl
    grind
  · have : (0 : Rat) ≤ (M : Rat) := by exact_mod_cast Nat.zero_le M
    have e : ((M + K : Nat) : Rat) = (M : Rat) + (K : Rat) := by push_cast; rfl
    grind
theorem nat_hn (k : Nat) : (k : Rat) * hn k ≤ 1 := by
  induction k with
  | zero => rw [show ((0 : Nat) : Rat) = 0 from rfl]; grind
  | succ k ih =>
    rw [hn_succ]
    have := hn_pos k
    have h1 := hn_le (Nat.zero_le k)
    have h0 : hn 0 = 1 := rfl
    have e : ((k + 1 : Nat) : Rat) = (k : Rat) + 1 := by push_cast; rfl
    rw [e]
    grind
/-- Whatever is given, 2^-n times it becomes small. -/
theorem small_hn (x : Rat) {e : Rat} (he : 0 < e) : ∃ N, ∀ n, N ≤ n → -e ≤ x * hn n ∧ x * hn n ≤ e := by
  obtain ⟨M, h1, h2⟩ := nat_above (x / e)
  refine ⟨M, fun n hn' => ?_⟩
  have h3 := nat_hn M
  have h4 := hn_le hn'
  have h5 := hn_pos n
  have hM : (0 : Rat) ≤ (M : Rat) := by exact_mod_cast Nat.zero_le M
  have h6 : (M : Rat) * hn n ≤ 1 := Rat.le_trans (Rat.mul_le_mul_of_nonneg_left h4 hM) h3
  have a1 : x / e * hn n ≤ (M : Rat) * hn n := Rat.mul_le_mul_of_nonneg_right h1 (Rat.le_of_lt h5)
  have a2 : -(x / e) * hn n ≤ (M : Rat) * hn n := Rat.mul_le_mul_of_nonneg_right h2 (Rat.le_of_lt h5)
  have b1 : x / e * hn n * e ≤ 1 * e := Rat.mul_le_mul_of_nonneg_right (Rat.le_trans a1 h6) (Rat.le_of_lt he)
  have b2 : -(x / e) * hn n * e ≤ 1 * e := Rat.mul_le_mul_of_nonneg_right (Rat.le_trans a2 h6) (Rat.le_of_lt he)
  have c : x / e * e = x := by grind
  constructor
  · have : -(x / e) * hn n * e = -(x * hn n) := by rw [show -(x / e) * hn n * e = -(x / e * e * hn n) by grind, c]
    grind
  · have : x / e * hn n * e = x * hn n := by rw [show x / e * hn n * e = x / e * e * hn n by grind, c]
    grind
/-- What is at most r up to multiples of 2^-n is at most r. -/
theorem lim_le {q r C : Rat} {M : Nat} (h : ∀ n, M ≤ n → q ≤ r + C * hn n) : q ≤ r := by
  refine Rat.not_lt.1 fun hlt => ?_
  obtain ⟨N, hN⟩ := small_hn C (show 0 < (q - r) / 2 by grind)
  have h1 := h (max M N) (Nat.le_max_left _ _)
  have h2 := (hN (max M N) (Nat.le_max_right _ _)).2
  grind
theorem exF_pos {n : Nat} {x : Rat} (h : -(1 / 2) ≤ x * hn n) : 0 < exF n x := sqn_pos (by grind)
theorem half_base (x : Rat) : ∃ N, ∀ n, N ≤ n → -(1 / 2) ≤ x * hn n ∧ x * hn n ≤ 1 / 2 := small_hn x (by grind)
theorem exF_ups {x : Rat} {n k : Nat} (h : ∀ j, n ≤ j → -(1 / 2) ≤ x * hn j) (hk : n ≤ k) : exF n x ≤ exF k x := by
  induction k with
  | zero => rw [show n = 0 by omega]; exact Rat.le_refl
  | succ k ih =>
    by_cases h2 : n ≤ k
    · refine Rat.le_trans (ih h2) (exF_up ?_)
      have := h k h2
      grind
    · rw [show n = k + 1 by omega]; exact Rat.le_refl
/-- The exponential of x is at most b; is at least a. -/
def UpE (x b : Rat) : Prop := ∃ N, ∀ n, N ≤ n → exF n x ≤ b
def LoE (a x : Rat) : Prop := ∃ N, ∀ n, N ≤ n → a * exF n (-x) ≤ 1
theorem UpE.pos {x b : Rat} (h : UpE x b) : 0 < b := by
  obtain ⟨N, h⟩ := h
  obtain ⟨M, hM⟩ := half_base x
  have h1 := h (max N M) (Nat.le_max_left _ _)
  have h2 := exF_pos (hM (max N M) (Nat.le_max_right _ _)).1
  grind
/-- A bound up to multiples of 2^-n is a bound. -/
theorem upE_lim {x b C : Rat} {M : Nat} (h : ∀ n, M ≤ n → exF n x ≤ b + C * hn n) : UpE x b := by
  obtain ⟨N, hN⟩ := half_base x
  refine ⟨N, fun n hn' => ?_⟩
  refine lim_le (C := C) (M := max M n) fun k hk => ?_
  have h1 := exF_ups (x := x) (n := n) (k := k) (fun j hj => (hN j (by omega)).1) (by omega)
  exact Rat.le_trans h1 (h k (by omega))
theorem exF_prod (n : Nat) (x : Rat) : exF n x * exF n (-x) = sqn n (1 + -(x * x * hn n) * hn n) := by
  unfold exF
  rw [← sqn_mul]
  congr 1
  grind
theorem exF_pair {x : Rat} : ∃ N, ∀ n, N ≤ n → 1 - x * x * hn n ≤ exF n x * exF n (-x) := by
  obtain ⟨N, hN⟩ := small_hn (x * x) (show (0 : Rat) < 1 by grind)
  refine ⟨N, fun n h => ?_⟩
  rw [exF_prod]
  have h1 := hN n h
  have := bern n (y := -(x * x * hn n)) (by grind)
  grind
/-- Two bounds of one exponential. -/
theorem LoE.le {a x b : Rat} (h1 : LoE a x) (h2 : UpE x b) : a ≤ b := by
  have hb := h2.pos
  by_cases ha : a ≤ 0
  · grind
  obtain ⟨N1, h1⟩ := h1
  obtain ⟨N2, h2⟩ := h2
  obtain ⟨N3, h3⟩ := exF_pair (x := x)
  obtain ⟨N4, h4⟩ := half_base x
  refine lim_le (C := a * (x * x)) (M := N1 + N2 + N3 + N4) fun n hn' => ?_
  have a1 := h1 n (by omega)
  have a2 := h2 n (by omega)
  have a3 := h3 n (by omega)
  have a4 := exF_pos (h4 n (by omega)).1
  have b1 : a * exF n (-x) * exF n x ≤ 1 * exF n x := Rat.mul_le_mul_of_nonneg_right a1 (Rat.le_of_lt a4)
  have b2 : a * (1 - x * x * hn n) ≤ a * (exF n x * exF n (-x)) := Rat.mul_le_mul_of_nonneg_left a3 (by grind)
  grind
theorem UpE.dbl {x b : Rat} (h : UpE x b) : UpE (2 * x) (b * b) := by
  have hb := h.pos
  obtain ⟨N, h⟩ := h
  obtain ⟨M, hM⟩ := half_base x
  refine ⟨N + M + 1, fun n hn' => ?_⟩
  obtain ⟨k, rfl⟩ : ∃ k, n = k + 1 := ⟨n - 1, by omega⟩
  rw [exF_dbl]
  have h1 := h k (by omega)
  have h2 := exF_pos (hM k (by omega)).1
  exact rmul_le h1 h1 (Rat.le_of_lt h2) (Rat.le_of_lt hb)
theorem LoE.dbl {x a : Rat} (h : LoE a x) (ha : 0 ≤ a) : LoE (a * a) (2 * x) := by
  obtain ⟨N, h⟩ := h
  obtain ⟨M, hM⟩ := half_base (-x)
  refine ⟨N + M + 1, fun n hn' => ?_⟩
  obtain ⟨k, rfl⟩ : ∃ k, n = k + 1 := ⟨n - 1, by omega⟩
  rw [show -(2 * x) = 2 * -x by grind, exF_dbl]
  have h1 := h k (by omega)
  have h2 := exF_pos (hM k (by omega)).1
  have h3 := Rat.mul_nonneg ha (Rat.le_of_lt h2)
  have := rmul_le h1 h1 h3 (show (0 : Rat) ≤ 1 by grind)
  grind
theorem UpE.up {x b c : Rat} (h : UpE x b) (hc : b ≤ c) : UpE x c := by
  obtain ⟨N, h⟩ := h
  exact ⟨N, fun n hn' => Rat.le_trans (h n hn') hc⟩
theorem UpE.mono {x y b : Rat} (h : UpE y b) (hxy : x ≤ y) : UpE x b := by
  obtain ⟨N, h⟩ := h
  obtain ⟨M, hM⟩ := half_base x
  refine ⟨N + M, fun n hn' => Rat.le_trans (exF_mono ?_ hxy) (h n (by omega))⟩
  have := hM n (by omega)
  grind
theorem LoE.down {x a c : Rat} (h : LoE a x) (hc : c ≤ a) : LoE c x := by
  obtain ⟨N, h⟩ := h
  obtain ⟨M, hM⟩ := half_base (-x)
  refine ⟨N + M, fun n hn' => ?_⟩
  have h2 := exF_pos (hM n (by omega)).1
  exact Rat.le_trans (Rat.mul_le_mul_of_nonneg_right hc (Rat.le_of_lt h2)) (h n (by omega))
theorem LoE.zero (x : Rat) : LoE 0 x := ⟨0, fun n _ => by grind⟩
theorem LoE.mono {x y a : Rat} (h : LoE a x) (hxy : x ≤ y) (ha : 0 ≤ a) : LoE a y := by
  obtain ⟨N, h⟩ := h
  obtain ⟨M, hM⟩ := half_base (-y)
  refine ⟨N + M, fun n hn' => Rat.le_trans (Rat.mul_le_mul_of_nonneg_left (exF_mono ?_ (by grind)) ha) (h n (by omega))⟩
  have := hM n (by omega)
  grind
theorem UpE.neg {x b : Rat} (h : UpE x b) : LoE b⁻¹ (-x) := by
  have hb := h.pos
  obtain ⟨N, h⟩ := h
  refine ⟨N, fun n hn' => ?_⟩
  rw [Rat.neg_neg]
  have h1 := h n hn'
  have h2 : 0 < b⁻¹ := Rat.inv_pos.2 hb
  have := Rat.mul_le_mul_of_nonneg_left h1 (Rat.le_of_lt h2)
  rw [Rat.inv_mul_cancel b (by grind)] at this
  exact this
theorem LoE.neg {x a : Rat} (h : LoE a x) (ha : 0 < a) : UpE (-x) a⁻¹ := by
  obtain ⟨N, h⟩ := h
  refine ⟨N, fun n hn' => ?_⟩
  have h1 := h n hn'
  have h2 : 0 < a⁻¹ := Rat.inv_pos.2 ha
  have := Rat.mul_le_mul_of_nonneg_left h1 (Rat.le_of_lt h2)
  rw [← Rat.mul_assoc, Rat.inv_mul_cancel a (by grind)] at this
  grind
/-- Sums of arguments. -/
theorem UpE.add {x y b c : Rat} (h : UpE x b) (k : UpE y c) : UpE (x + y) (b * c) := by
  have hb := h.pos
  have hc := k.pos
  obtain ⟨N1, h⟩ := h
  obtain ⟨N2, k⟩ := k
  obtain ⟨M1, hM1⟩ := half_base x
  obtain ⟨M2, hM2⟩ := half_base y
  obtain ⟨M3, hM3⟩ := half_base (x + y)
  -- a bound of |x y|
  obtain ⟨P, hP1, hP2⟩ := nat_above (x * y)
  have hP0 : (0 : Rat) ≤ (P : Rat) := by exact_mod_cast Nat.zero_le P
  obtain ⟨M4, hM4⟩ := small_hn (2 * (P : Rat)) (show (0 : Rat) < 1 by grind)
  refine ⟨M3, fun n hn3 => ?_⟩
  obtain ⟨F, hF⟩ : ∃ F, exF n (x + y) = F := ⟨_, rfl⟩
  rw [hF]
  refine lim_le (C := F * (2 * (P : Rat))) (M := N1 + N2 + M1 + M2 + M4 + n) fun m hm => ?_
  have e0 := hn_pos m
  have a1 := h m (by omega)
  have a2 := k m (by omega)
  have a3 := hM1 m (by omega)
  have a4 := hM2 m (by omega)
  have a5 := hM3 m (by omega)
  have a6 := hM4 m (by omega)
  have b1 := exF_ups (x := x + y) (n := n) (k := m) (fun j hj => (hM3 j (by omega)).1) (by omega)
  have b2 := exF_pos a3.1
  have b3 := exF_pos a4.1
  have b4 := exF_pos a5.1
  have b5 := exF_pos (hM3 n hn3).1
  rw [hF] at b1 b5
  -- (1 + (x + y) h) (1 - 2 P h h) is at most the product
  have q1 : (1 + (x + y) * hn m) * (1 + -(2 * (P : Rat) * hn m) * hn m) ≤ (1 + x * hn m) * (1 + y * hn m) := by
    have w1 : 0 ≤ hn m * hn m := rsq_nn _
    have w2 := Rat.mul_le_mul_of_nonneg_right hP2 w1
    have w3 : (P : Rat) * (hn m * hn m) ≤ (1 + (x + y) * hn m) * (2 * ((P : Rat) * (hn m * hn m))) := by
      have w4 : 0 ≤ (P : Rat) * (hn m * hn m) := Rat.mul_nonneg hP0 w1
      have := Rat.mul_le_mul_of_nonneg_right (show (1 : Rat) ≤ 2 * (1 + (x + y) * hn m) by grind) w4
      grind
    grind
  have q2 := sqn_mono (n := m) (Rat.mul_nonneg (show 0 ≤ 1 + (x + y) * hn m by grind) (show 0 ≤ 1 + -(2 * (P : Rat) * hn m) * hn m by
    have w1 : hn m ≤ 1 := hn_le (Nat.zero_le m)
    have w2 := Rat.mul_le_mul_of_nonneg_right a6.2 (Rat.le_of_lt e0)
    grind)) q1
  rw [sqn_mul, sqn_mul] at q2
  have q3 := bern m (y := -(2 * (P : Rat) * hn m)) (by grind)
  have q4 : exF m (x + y) * (1 + -(2 * (P : Rat) * hn m)) ≤ exF m (x + y) * sqn m (1 + -(2 * (P : Rat) * hn m) * hn m) := Rat.mul_le_mul_of_nonneg_left q3 (Rat.le_of_lt b4)
  have q5 : exF m x * exF m y ≤ b * c := rmul_le a1 a2 (Rat.le_of_lt b3) (Rat.le_of_lt hb)
  have q6 : F * (1 + -(2 * (P : Rat) * hn m)) ≤ exF m (x + y) * (1 + -(2 * (P : Rat) * hn m)) := Rat.mul_le_mul_of_nonneg_right b1 (by grind)
  have q7 : exF m (x + y) * sqn m (1 + -(2 * (P : Rat) * hn m) * hn m) ≤ exF m x * exF m y := q2
  grind
theorem LoE.add {x y a c : Rat} (h : LoE a x) (k : LoE c y) (ha : 0 < a) (hc : 0 < c) : LoE (a * c) (x + y) := by
  have h1 := (h.neg ha).add (k.neg hc)
  have h2 := h1.neg
  rw [show -(-x + -y) = x + y by grind] at h2
  have e : (a⁻¹ * c⁻¹)⁻¹ = a * c := by
    have : a ≠ 0 := by grind
    have : c ≠ 0 := by grind
    grind
  rwa [e] at h2
/-- The terms of the exponential series, and its sums. -/
def tm : Nat → Rat → Rat
  | 0, _ => 1
  | k + 1, t => tm k t * t / ((k : Rat) + 1)
def esm : Nat → Rat → Rat
  | 0, _ => 0
  | k + 1, t => esm k t + tm k t
theorem nat_nn (k : Nat) : (0 : Rat) ≤ (k : Rat) := by exact_mod_cast Nat.zero_le k
theorem tm_mul (k : Nat) (t : Rat) : tm (k + 1) t * ((k : Rat) + 1) = tm k t * t := by
  show tm k t * t / ((k : Rat) + 1) * ((k : Rat) + 1) = tm k t * t
  have := nat_nn k
  exact Rat.div_mul_cancel (by grind)
theorem div_nn {a b : Rat} (h : 0 ≤ a) (h2 : 0 < b) : 0 ≤ a / b := by
  rw [Rat.div_def]
  exact Rat.mul_nonneg h (Rat.le_of_lt (Rat.inv_pos.2 h2))
theorem tm_nn (k : Nat) {t : Rat} (h : 0 ≤ t) : 0 ≤ tm k t := by
  induction k with
  | zero => show (0 : Rat) ≤ 1; grind
  | succ k ih =>
    have := nat_nn k
    exact div_nn (Rat.mul_nonneg ih h) (by grind)
theorem esm_nn (k : Nat) {t : Rat} (h : 0 ≤ t) : 0 ≤ esm k t := by
  induction k with
  | zero => show (0 : Rat) ≤ 0; grind
  | succ k ih =>
    have := tm_nn k h
    show 0 ≤ esm k t + tm k t
    grind
theorem le_of_mul {a b c : Rat} (hc : 0 < c) (h : a * c ≤ b * c) : a ≤ b := by
  refine Rat.not_lt.1 fun hlt => ?_
  have := Rat.mul_lt_mul_of_pos_right hlt hc
  grind
theorem tm_diff (k : Nat) {s h : Rat} (hs : 0 ≤ s) (hh : 0 ≤ h) : h * tm k s ≤ tm (k + 1) (s + h) - tm (k + 1) s ∧ tm (k + 1) (s + h) - tm (k + 1) s ≤ h * tm k (s + h) := by
  induction k with
  | zero =>
    have e : ∀ x : Rat, tm 1 x = x := fun x => by
      have := tm_mul 0 x
      rw [show tm 0 x = 1 from rfl, show ((0 : Nat) : Rat) = 0 from rfl] at this
      grind
    rw [e, e, show tm 0 s = 1 from rfl, show tm 0 (s + h) = 1 from rfl]
    grind
  | succ k ih =>
    have h0 := nat_nn k
    have a1 := tm_mul (k + 1) (s + h)
    have a2 := tm_mul (k + 1) s
    have a3 := tm_mul k (s + h)
    have a4 := tm_mul k s
    have e : ((k + 1 : Nat) : Rat) = (k : Rat) + 1 := by push_cast; rfl
    rw [e] at a1 a2
    have b0 := tm_nn k hs
    have b1 := tm_nn (k + 1) hs
    have b2 := tm_nn k (show 0 ≤ s + h by grind)
    have b3 := tm_nn (k + 1) (show 0 ≤ s + h by grind)
    have m1 : tm (k + 1) s ≤ tm (k + 1) (s + h) := by
      have := Rat.mul_nonneg hh b0
      grind
    have c1 := Rat.mul_le_mul_of_nonneg_right ih.1 (show 0 ≤ s + h by grind)
    have c2 := Rat.mul_le_mul_of_nonneg_right ih.2 (show 0 ≤ s + h by grind)
    have c3 := Rat.mul_nonneg (Rat.mul_nonneg hh b0) hh
    have c4 := Rat.mul_le_mul_of_nonneg_left m1 hh
    have a5 : h * (tm (k + 1) s * ((k : Rat) + 1)) = h * (tm k s * s) := by rw [a4]
    have a6 : h * (tm (k + 1) (s + h) * ((k : Rat) + 1)) = h * (tm k (s + h) * (s + h)) := by rw [a3]
    constructor
    · refine le_of_mul (show 0 < (k : Rat) + 1 + 1 by grind) ?_
      grind
    · refine le_of_mul (show 0 < (k : Rat) + 1 + 1 by grind) ?_
      grind
theorem tm_mono (k : Nat) {s h : Rat} (hs : 0 ≤ s) (hh : 0 ≤ h) : tm k s ≤ tm k (s + h) := by
  match k with
  | 0 => exact Rat.le_refl
  | k + 1 =>
    have := (tm_diff k hs hh).1
    have := Rat.mul_nonneg hh (tm_nn k hs)
    grind
theorem esm_mono (k : Nat) {s h : Rat} (hs : 0 ≤ s) (hh : 0 ≤ h) : esm k s ≤ esm k (s + h) := by
  induction k with
  | zero => exact Rat.le_refl
  | succ k ih =>
    have := tm_mono k hs hh
    show esm k s + tm k s ≤ esm k (s + h) + tm k (s + h)
    grind
theorem esm_diff (k : Nat) {s h : Rat} (hs : 0 ≤ s) (hh : 0 ≤ h) : h * esm k s ≤ esm (k + 1) (s + h) - esm (k + 1) s ∧ esm (k + 1) (s + h) - esm (k + 1) s ≤ h * esm k (s + h) := by
  induction k with
  | zero =>
    show h * 0 ≤ 0 + 1 - (0 + 1) ∧ 0 + 1 - (0 + 1) ≤ h * 0
    grind
  | succ k ih =>
    have d := tm_diff k hs hh
    show h * (esm k s + tm k s) ≤ esm (k + 1) (s + h) + tm (k + 1) (s + h) - (esm (k + 1) s + tm (k + 1) s) ∧ esm (k + 1) (s + h) + tm (k + 1) (s + h) - (esm (k + 1) s + tm (k + 1) s) ≤ h * (esm k (s + h) + tm k (s + h))
    grind
/-- Powers. -/
def rp (b : Rat) : Nat → Rat
  | 0 => 1
  | j + 1 => rp b j * b
theorem rp_add (b : Rat) (i j : Nat) : rp b (i + j) = rp b i * rp b j := by
  induction j with
  | zero => show rp b i = rp b i * 1; grind
  | succ j ih =>
    show rp b (i + j) * b = rp b i * (rp b j * b)
    rw [ih]
    grind
theorem sqn_rp (n : Nat) (b : Rat) : sqn n b = rp b (2 ^ n) := by
  induction n with
  | zero => show b = 1 * b; grind
  | succ n ih => rw [sqn_succ, ih, Nat.pow_succ, Nat.mul_two, rp_add]
theorem rp_nn {b : Rat} (h : 0 ≤ b) (j : Nat) : 0 ≤ rp b j := by
  induction j with
  | zero => show (0 : Rat) ≤ 1; grind
  | succ j ih => exact Rat.mul_nonneg ih h
theorem two_hn (n : Nat) : ((2 ^ n : Nat) : Rat) * hn n = 1 := by
  induction n with
  | zero => show ((1 : Nat) : Rat) * 1 = 1; rw [show ((1 : Nat) : Rat) = 1 from rfl]; grind
  | succ n ih =>
    rw [hn_succ, Nat.pow_succ]
    have e : ((2 ^ n * 2 : Nat) : Rat) = ((2 ^ n : Nat) : Rat) * 2 := by push_cast; rfl
    rw [e]
    grind
/-- The sum of the series is below the exponential, for arguments that are not negative. -/
theorem esm_lo (K : Nat) {t : Rat} (ht : 0 ≤ t) : LoE (esm K t) t := by
  obtain ⟨N, hN⟩ := small_hn t (show (0 : Rat) < 1 by grind)
  refine ⟨N, fun n hn' => ?_⟩
  have h0 := hn_pos n
  have h1 := (hN n hn').2
  obtain ⟨h, hh⟩ : ∃ h, t * hn n = h := ⟨_, rfl⟩
  rw [hh] at h1
  have hh0 : 0 ≤ h := by rw [← hh]; exact Rat.mul_nonneg ht (Rat.le_of_lt h0)
  have e1 : exF n (-t) = rp (1 - h) (2 ^ n) := by
    unfold exF
    rw [sqn_rp, ← hh]
    congr 1
    grind
  have e2 : ((2 ^ n : Nat) : Rat) * h = t := by
    have := two_hn n
    rw [← hh]
    grind
  -- step by step
  have key : ∀ j : Nat, esm K ((j : Rat) * h) * rp (1 - h) j ≤ 1 := fun j => by
    induction j with
    | zero =>
      have : ∀ K, esm K ((0 : Nat) * h) ≤ 1 := fun K => by
        have z : ((0 : Nat) : Rat) * h = 0 := by rw [show ((0 : Nat) : Rat) = 0 from rfl]; grind
        rw [z]
        match K with
        | 0 => show (0 : Rat) ≤ 1; grind
        | K + 1 =>
          have : ∀ k, tm (k + 1) 0 = 0 := fun k => by
            have h1 := tm_mul k 0
            have h2 := nat_nn k
            have h3 : tm (k + 1) 0 * ((k : Rat) + 1) = 0 := by rw [h1]; grind
            exact (Rat.mul_eq_zero.1 h3).resolve_right (by grind)
          have s1 : ∀ k, esm (k + 1) 0 = 1 := fun k => by
            induction k with
            | zero => show (0 : Rat) + 1 = 1; grind
            | succ k ih =>
              show esm (k + 1) 0 + tm (k + 1) 0 = 1
              rw [ih, this]
              grind
          rw [s1]
          exact Rat.le_refl
      show esm K ((0 : Nat) * h) * 1 ≤ 1
      have := this K
      grind
    | succ j ih =>
      have hj : (0 : Rat) ≤ (j : Rat) * h := Rat.mul_nonneg (nat_nn j) hh0
      have e : ((j + 1 : Nat) : Rat) * h = (j : Rat) * h + h := by
        have : ((j + 1 : Nat) : Rat) = (j : Rat) + 1 := by push_cast; rfl
        rw [this]
        grind
      rw [e]
      show esm K ((j : Rat) * h + h) * (rp (1 - h) j * (1 - h)) ≤ 1
      have d : esm K ((j : Rat) * h + h) * (1 - h) ≤ esm K ((j : Rat) * h) := by
        match K with
        | 0 => show (0 : Rat) * (1 - h) ≤ 0; grind
        | K + 1 =>
          have d1 := (esm_diff K hj hh0).2
          have d2 := tm_nn K (show 0 ≤ (j : Rat) * h + h by grind)
          have d3 := Rat.mul_nonneg hh0 d2
          have d4 : esm (K + 1) ((j : Rat) * h + h) = esm K ((j : Rat) * h + h) + tm K ((j : Rat) * h + h) := rfl
          generalize (j : Rat) * h + h = s at *
          generalize esm (K + 1) ((j : Rat) * h) = E1 at *
          have d5 : h * esm (K + 1) s = h * esm K s + h * tm K s := by rw [d4]; grind
          generalize esm (K + 1) s = E2 at *
          generalize esm K s = E3 at *
          generalize tm K s = T3 at *
          grind
      have p := rp_nn (show 0 ≤ 1 - h by grind) j
      have := Rat.mul_le_mul_of_nonneg_right d p
      grind
  have := key (2 ^ n)
  rw [e2] at this
  rw [e1]
  exact this
/-- And with the next term twice above it. -/
theorem esm_up (K : Nat) {t : Rat} (ht : 0 ≤ t) (hK : 2 * t ≤ (K : Rat) + 1) : UpE t (esm (K + 1) t + 2 * tm (K + 1) t) := by
  refine ⟨0, fun n _ => ?_⟩
  have h0 := hn_pos n
  obtain ⟨h, hh⟩ : ∃ h, t * hn n = h := ⟨_, rfl⟩
  have hh0 : 0 ≤ h := by rw [← hh]; exact Rat.mul_nonneg ht (Rat.le_of_lt h0)
  have e1 : exF n t = rp (1 + h) (2 ^ n) := by
    unfold exF
    rw [sqn_rp, ← hh]
  have e2 : ((2 ^ n : Nat) : Rat) * h = t := by
    have := two_hn n
    rw [← hh]
    grind
  have key : ∀ j : Nat, (j : Rat) * h ≤ t → rp (1 + h) j ≤ esm (K + 1) ((j : Rat) * h) + 2 * tm (K + 1) ((j : Rat) * h) := fun j => by
    induction j with
    | zero =>
      intro _
      have z : ((0 : Nat) : Rat) * h = 0 := by rw [show ((0 : Nat) : Rat) = 0 from rfl]; grind
      rw [z]
      have a1 := tm_nn (K + 1) (show (0 : Rat) ≤ 0 by grind)
      have a2 := esm_nn K (show (0 : Rat) ≤ 0 by grind)
      have s1 : ∀ k, 1 ≤ esm (k + 1) 0 := fun k => by
        induction k with
        | zero => show (1 : Rat) ≤ 0 + 1; grind
        | succ k ih =>
          have := tm_nn (k + 1) (show (0 : Rat) ≤ 0 by grind)
          show 1 ≤ esm (k + 1) 0 + tm (k + 1) 0
          grind
      have := s1 K
      show (1 : Rat) ≤ _
      grind
    | succ j ih =>
      intro hj1
      have e : ((j + 1 : Nat) : Rat) * h = (j : Rat) * h + h := by
        have : ((j + 1 : Nat) : Rat) = (j : Rat) + 1 := by push_cast; rfl
        rw [this]
        grind
      rw [e] at hj1 ⊢
      have hj : (0 : Rat) ≤ (j : Rat) * h := Rat.mul_nonneg (nat_nn j) hh0
      have i1 := ih (by grind)
      obtain ⟨s, hs⟩ : ∃ s, (j : Rat) * h = s := ⟨_, rfl⟩
      rw [hs] at i1 hj hj1 ⊢
      have d1 := (esm_diff K hj hh0).1
      have d2 := (tm_diff K hj hh0).1
      have d3 : esm (K + 1) s = esm K s + tm K s := rfl
      have d4 := tm_mul K s
      have d5 := tm_nn K hj
      have d6 := tm_nn (K + 1) hj
      -- tm K s is at least twice the next term
      have d7 : 2 * tm (K + 1) s ≤ tm K s := by
        refine le_of_mul (show 0 < (K : Rat) + 1 by have := nat_nn K; grind) ?_
        have := Rat.mul_le_mul_of_nonneg_left (show 2 * s ≤ (K : Rat) + 1 by grind) d5
        grind
      have d8 := Rat.mul_le_mul_of_nonneg_left d7 hh0
      show rp (1 + h) j * (1 + h) ≤ _
      have d9 := Rat.mul_le_mul_of_nonneg_right i1 (show 0 ≤ 1 + h by grind)
      have d10 : h * esm (K + 1) s = h * esm K s + h * tm K s := by rw [d3]; grind
      clear ih hs e i1 d3 d4 d7
      generalize esm (K + 1) (s + h) = A1 at *
      generalize tm (K + 1) (s + h) = A2 at *
      generalize esm (K + 1) s = A3 at *
      generalize tm (K + 1) s = A4 at *
      generalize esm K s = A5 at *
      generalize tm K s = A6 at *
      generalize rp (1 + h) j = A7 at *
      have d11 : (A3 + 2 * A4) * (1 + h) = A3 + 2 * A4 + h * A3 + h * (2 * A4) := by grind
      rw [d11] at d9
      clear d11 e1 e2 hK ht
      grind
  have := key (2 ^ n) (by rw [e2]; exact Rat.le_refl)
  rw [e2] at this
  rw [e1]
  exact this
/-- Signs of the terms at arguments below zero. -/
def sgk : Nat → Rat
  | 0 => 1
  | k + 1 => -sgk k
theorem sgk_or (k : Nat) : sgk k = 1 ∨ sgk k = -1 := by
  induction k with
  | zero => exact Or.inl rfl
  | succ k ih =>
    rcases ih with h | h
    · exact Or.inr (by show -sgk k = -1; rw [h])
    · exact Or.inl (by show -sgk k = 1; rw [h]; grind)
theorem tm_neg (k : Nat) (t : Rat) : tm k (-t) = sgk k * tm k t := by
  induction k with
  | zero => show (1 : Rat) = 1 * 1; grind
  | succ k ih =>
    have h0 := nat_nn k
    have h1 := tm_mul k (-t)
    have h2 := tm_mul k t
    have h3 : (tm (k + 1) (-t) - sgk (k + 1) * tm (k + 1) t) * ((k : Rat) + 1) = 0 := by
      have e : sgk (k + 1) = -sgk k := rfl
      rw [ih] at h1
      rw [e]
      have h4 : sgk k * (tm (k + 1) t * ((k : Rat) + 1)) = sgk k * (tm k t * t) := by rw [h2]
      grind
    have := (Rat.mul_eq_zero.1 h3).resolve_right (by grind)
    grind
/-- What the second order leaves. -/
def tb : Nat → Rat → Rat
  | 0, _ => 0
  | k + 1, t => tm k t
theorem tm_second (k : Nat) {s h : Rat} (hs : 0 ≤ s) (hh : 0 ≤ h) : 0 ≤ tm (k + 1) (s + h) - tm (k + 1) s - h * tm k s ∧ tm (k + 1) (s + h) - tm (k + 1) s - h * tm k s ≤ h * h * tb k (s + h) := by
  have d := tm_diff k hs hh
  refine ⟨by grind, ?_⟩
  match k with
  | 0 =>
    have e1 : tm 0 s = 1 := rfl
    have e2 : tm 0 (s + h) = 1 := rfl
    have e3 : tb 0 (s + h) = 0 := rfl
    rw [e2] at d
    rw [e1, e3]
    grind
  | k + 1 =>
    have d2 := Rat.mul_le_mul_of_nonneg_left (tm_diff k hs hh).2 hh
    have e3 : tb (k + 1) (s + h) = tm k (s + h) := rfl
    rw [e3]
    grind
def esb : Nat → Rat → Rat
  | 0, _ => 0
  | k + 1, t => esb k t + tb k t
theorem esb_succ (k : Nat) (t : Rat) : esb (k + 1) t = esm k t := by
  induction k with
  | zero => show (0 : Rat) + 0 = 0; grind
  | succ k ih =>
    show esb (k + 1) t + tm k t = esm k t + tm k t
    rw [ih]
theorem esb_le (k : Nat) {t : Rat} (h : 0 ≤ t) : esb k t ≤ esm k t := by
  match k with
  | 0 => exact Rat.le_refl
  | k + 1 =>
    rw [esb_succ]
    have := tm_nn k h
    show esm k t ≤ esm k t + tm k t
    grind
theorem esm_second (K : Nat) {s h : Rat} (hs : 0 ≤ s) (hh : 0 ≤ h) : -(h * h * esb K (s + h)) ≤ esm (K + 1) (-(s + h)) - esm (K + 1) (-s) + h * esm K (-s) ∧ esm (K + 1) (-(s + h)) - esm (K + 1) (-s) + h * esm K (-s) ≤ h * h * esb K (s + h) := by
  induction K with
  | zero =>
    show -(h * h * 0) ≤ 0 + 1 - (0 + 1) + h * 0 ∧ 0 + 1 - (0 + 1) + h * 0 ≤ h * h * 0
    grind
  | succ K ih =>
    obtain ⟨a1, a2⟩ := tm_second K hs hh
    have e1 : esm (K + 1 + 1) (-(s + h)) = esm (K + 1) (-(s + h)) + tm (K + 1) (-(s + h)) := rfl
    have e2 : esm (K + 1 + 1) (-s) = esm (K + 1) (-s) + tm (K + 1) (-s) := rfl
    have e3 : h * esm (K + 1) (-s) = h * esm K (-s) + h * tm K (-s) := by
      show h * (esm K (-s) + tm K (-s)) = _
      grind
    have e4 : h * h * esb (K + 1) (s + h) = h * h * esb K (s + h) + h * h * tb K (s + h) := by
      show h * h * (esb K (s + h) + tb K (s + h)) = _
      grind
    have e5 : sgk (K + 1) = -sgk K := rfl
    have t1 := tm_neg (K + 1) (s + h)
    have t2 := tm_neg (K + 1) s
    have t3 := tm_neg K s
    rw [e1, e2, e3, e4]
    rcases sgk_or K with g | g
    · rw [e5, g] at t1 t2
      rw [g] at t3
      rw [t1, t2, t3]
      grind
    · rw [e5, g] at t1 t2
      rw [g] at t3
      rw [t1, t2, t3]
      grind
theorem esm_at0 (k : Nat) : esm (k + 1) (-0) = 1 := by
  have : ∀ k, tm (k + 1) (-0) = 0 := fun k => by
    have h1 := tm_mul k (-0)
    have h2 := nat_nn k
    have h3 : tm (k + 1) (-0) * ((k : Rat) + 1) = 0 := by rw [h1]; grind
    exact (Rat.mul_eq_zero.1 h3).resolve_right (by grind)
  induction k with
  | zero => show (0 : Rat) + 1 = 1; grind
  | succ k ih =>
    show esm (k + 1) (-0) + tm (k + 1) (-0) = 1
    rw [ih, this]
    grind
/-- Step by step, below zero. -/
theorem neg_step (K : Nat) {t h : Rat} (hh : 0 ≤ h) (h1 : h ≤ 1) (j : Nat) (hj : (j : Rat) * h ≤ t) :
    rp (1 - h) j ≤ esm (K + 1) (-((j : Rat) * h)) + tm (K + 1) ((j : Rat) * h) + esm K t * (h * h) * (j : Rat) ∧
    esm (K + 1) (-((j : Rat) * h)) - tm (K + 1) ((j : Rat) * h) - esm K t * (h * h) * (j : Rat) ≤ rp (1 - h) j := by
  induction j with
  | zero =>
    have z : ((0 : Nat) : Rat) * h = 0 := by rw [show ((0 : Nat) : Rat) = 0 from rfl]; grind
    have z2 : ((0 : Nat) : Rat) = 0 := rfl
    rw [z, esm_at0, z2]
    have := tm_nn (K + 1) (show (0 : Rat) ≤ 0 by grind)
    show (1 : Rat) ≤ _ ∧ _ ≤ (1 : Rat)
    grind
  | succ j ih =>
    have e0 : ((j + 1 : Nat) : Rat) = (j : Rat) + 1 := by push_cast; rfl
    have e : ((j + 1 : Nat) : Rat) * h = (j : Rat) * h + h := by rw [e0]; grind
    rw [e] at hj
    rw [e, e0]
    have hj0 : (0 : Rat) ≤ (j : Rat) * h := Rat.mul_nonneg (nat_nn j) hh
    obtain ⟨i1, i2⟩ := ih (by grind)
    have hjn := nat_nn j
    obtain ⟨s, hs⟩ : ∃ s, (j : Rat) * h = s := ⟨_, rfl⟩
    rw [hs] at i1 i2 hj hj0 ⊢
    obtain ⟨d1, d2⟩ := esm_second K hj0 hh
    have d3 := (tm_diff K hj0 hh).1
    have d4 : h * esm (K + 1) (-s) = h * esm K (-s) + h * tm K (-s) := by
      show h * (esm K (-s) + tm K (-s)) = _
      grind
    have d5 := tm_neg K s
    have d6 := Rat.mul_nonneg hh (tm_nn K hj0)
    have d7 := Rat.mul_nonneg hh (tm_nn (K + 1) hj0)
    have d8 : h * h * esb K (s + h) ≤ h * h * esm K t := by
      refine Rat.mul_le_mul_of_nonneg_left ?_ (rsq_nn h)
      refine Rat.le_trans (esb_le K (by grind)) ?_
      have := esm_mono K (s := s + h) (h := t - (s + h)) (by grind) (by grind)
      rwa [show s + h + (t - (s + h)) = t by grind] at this
    have d9 : 0 ≤ esm K t * (h * h) * (j : Rat) := Rat.mul_nonneg (Rat.mul_nonneg (esm_nn K (by grind)) (rsq_nn h)) hjn
    have d10 := Rat.mul_nonneg d9 hh
    have c1 := Rat.mul_le_mul_of_nonneg_right i1 (show 0 ≤ 1 - h by grind)
    have c2 := Rat.mul_le_mul_of_nonneg_right i2 (show 0 ≤ 1 - h by grind)
    show rp (1 - h) j * (1 - h) ≤ _ ∧ _ ≤ rp (1 - h) j * (1 - h)
    have d11 : h * tm K (-s) = h * tm K s ∨ h * tm K (-s) = -(h * tm K s) := by
      rcases sgk_or K with g | g
      · rw [g] at d5; rw [d5]; left; grind
      · rw [g] at d5; rw [d5]; right; grind
    clear d5 ih e hs e0 i1 i2
    generalize esm (K + 1) (-(s + h)) = A1 at *
    generalize tm (K + 1) (s + h) = A2 at *
    generalize esm (K + 1) (-s) = A3 at *
    generalize tm (K + 1) s = A4 at *
    generalize esm K (-s) = A5 at *
    generalize h * tm K (-s) = A6 at *
    generalize h * tm K s = A7 at *
    generalize rp (1 - h) j * (1 - h) = A8 at *
    generalize esm K t = A9 at *
    generalize esb K (s + h) = B1 at *
    constructor
    · rcases d11 with g | g <;> grind
    · rcases d11 with g | g <;> grind
theorem exF_rp (n : Nat) (t : Rat) : exF n (-t) = rp (1 - t * hn n) (2 ^ n) := by
  unfold exF
  rw [sqn_rp]
  congr 1
  grind
theorem neg_both (K : Nat) {t : Rat} (ht : 0 ≤ t) : ∃ N, ∀ n, N ≤ n → exF n (-t) ≤ esm (K + 1) (-t) + tm (K + 1) t + esm K t * (t * t) * hn n ∧ esm (K + 1) (-t) - tm (K + 1) t - esm K t * (t * t) * hn n ≤ exF n (-t) := by
  obtain ⟨N, hN⟩ := small_hn t (show (0 : Rat) < 1 by grind)
  refine ⟨N, fun n hn' => ?_⟩
  have h0 := hn_pos n
  have h1 := (hN n hn').2
  have e2 : ((2 ^ n : Nat) : Rat) * (t * hn n) = t := by
    have := two_hn n
    grind
  have key := neg_step K (t := t) (h := t * hn n) (Rat.mul_nonneg ht (Rat.le_of_lt h0)) h1 (2 ^ n) (by rw [e2]; exact Rat.le_refl)
  rw [e2] at key
  have e3 : esm K t * (t * hn n * (t * hn n)) * ((2 ^ n : Nat) : Rat) = esm K t * (t * t) * hn n := by
    have : esm K t * (t * hn n * (t * hn n)) * ((2 ^ n : Nat) : Rat) = esm K t * (((2 ^ n : Nat) : Rat) * (t * hn n)) * (t * hn n) := by grind
    rw [this, e2]
    grind
  rw [e3] at key
  rw [exF_rp]
  exact key
/-- The series below zero, with its next term on both sides. -/
theorem neg_up (K : Nat) {t : Rat} (ht : 0 ≤ t) : UpE (-t) (esm (K + 1) (-t) + tm (K + 1) t) := by
  obtain ⟨N, h⟩ := neg_both K ht
  exact upE_lim (C := esm K t * (t * t)) (M := N) fun n hn' => (h n hn').1
theorem upE_some (x : Rat) : ∃ b, UpE x b := by
  obtain ⟨M, h1, _⟩ := nat_above (2 * x)
  by_cases h : 0 ≤ x
  · exact ⟨_, esm_up M h (by grind)⟩
  · refine ⟨1, UpE.mono (y := 0) ⟨0, fun n _ => ?_⟩ (by grind)⟩
    unfold exF
    rw [show (1 : Rat) + 0 * hn n = 1 by grind, sqn_one]
    exact Rat.le_refl
theorem pair_le {x : Rat} : ∃ N, ∀ n, N ≤ n → exF n x * exF n (-x) ≤ 1 := by
  obtain ⟨N, hN⟩ := half_base x
  refine ⟨N, fun n hn' => ?_⟩
  have h := hN n hn'
  have h0 := hn_pos n
  unfold exF
  rw [← sqn_mul]
  have e : (1 + x * hn n) * (1 + -x * hn n) = 1 - (x * hn n) * (x * hn n) := by grind
  rw [e]
  have s := rsq_nn (x * hn n)
  have s2 : (x * hn n) * (x * hn n) ≤ 1 := by
    by_cases p : 0 ≤ x * hn n
    · have := rmul_le h.2 h.2 p (by grind)
      grind
    · have := rmul_le (show -(x * hn n) ≤ 1 / 2 by grind) (show -(x * hn n) ≤ 1 / 2 by grind) (by grind) (by grind)
      grind
  have := sqn_mono (n := n) (show 0 ≤ 1 - (x * hn n) * (x * hn n) by grind) (show 1 - (x * hn n) * (x * hn n) ≤ 1 by grind)
  rwa [sqn_one] at this
theorem neg_lo (K : Nat) {t : Rat} (ht : 0 ≤ t) : LoE (esm (K + 1) (-t) - tm (K + 1) t) (-t) := by
  obtain ⟨W, hW⟩ : ∃ W, esm (K + 1) (-t) - tm (K + 1) t = W := ⟨_, rfl⟩
  rw [hW]
  by_cases hw : W ≤ 0
  · exact (LoE.zero _).down hw
  obtain ⟨N1, h1⟩ := neg_both K ht
  rw [hW] at h1
  obtain ⟨N2, h2⟩ := pair_le (x := t)
  obtain ⟨b, N3, h3⟩ := upE_some t
  obtain ⟨N4, h4⟩ := half_base t
  obtain ⟨C, hC⟩ : ∃ C, esm K t * (t * t) = C := ⟨_, rfl⟩
  rw [hC] at h1
  have hC0 : 0 ≤ C := by rw [← hC]; exact Rat.mul_nonneg (esm_nn K ht) (rsq_nn t)
  refine ⟨N4, fun n hn' => ?_⟩
  rw [Rat.neg_neg]
  refine lim_le (C := C * b) (M := N1 + N2 + N3 + n) fun m hm => ?_
  have e0 := hn_pos m
  have a1 := (h1 m (by omega)).2
  have a2 := h2 m (by omega)
  have a3 := h3 m (by omega)
  have a4 := exF_pos (h4 m (by omega)).1
  have a5 := exF_ups (x := t) (n := n) (k := m) (fun j hj => (h4 j (by omega)).1) (by omega)
  have b1 := Rat.mul_le_mul_of_nonneg_left a5 (show 0 ≤ W by grind)
  have b2 := Rat.mul_le_mul_of_nonneg_right a1 (Rat.le_of_lt a4)
  have b3 := Rat.mul_le_mul_of_nonneg_left a3 (Rat.mul_nonneg hC0 (Rat.le_of_lt e0))
  grind
/-- The series at any argument up to 1/2 of the number of its terms. -/
def rab (x : Rat) : Rat := if 0 ≤ x then x else -x
theorem rab_nn (x : Rat) : 0 ≤ rab x := by unfold rab; split <;> grind
theorem exp_up (K : Nat) {x : Rat} (h : 2 * rab x ≤ (K : Rat) + 1) : UpE x (esm (K + 1) x + 2 * tm (K + 1) (rab x)) := by
  by_cases hx : 0 ≤ x
  · have e : rab x = x := by unfold rab; rw [if_pos hx]
    rw [e] at h ⊢
    exact esm_up K hx h
  · have e : rab x = -x := by unfold rab; rw [if_neg hx]
    have h1 := neg_up K (t := -x) (by grind)
    rw [Rat.neg_neg] at h1
    rw [e]
    have := tm_nn (K + 1) (t := -x) (by grind)
    exact h1.up (by grind)
theorem exp_lo (K : Nat) (x : Rat) : LoE (esm (K + 1) x - tm (K + 1) (rab x)) x := by
  by_cases hx : 0 ≤ x
  · have e : rab x = x := by unfold rab; rw [if_pos hx]
    rw [e]
    have := tm_nn (K + 1) hx
    exact (esm_lo (K + 1) hx).down (by grind)
  · have e : rab x = -x := by unfold rab; rw [if_neg hx]
    have h1 := neg_lo K (t := -x) (by grind)
    rw [Rat.neg_neg] at h1
    rw [e]
    exact h1
/-- Powers of bounds: multiples of the argument. -/
theorem UpE.rp {x b : Rat} (h : UpE x b) (k : Nat) : UpE ((k : Rat) * x) (rp b k) := by
  induction k with
  | zero =>
    refine ⟨0, fun n _ => ?_⟩
    unfold exF
    rw [show (1 : Rat) + ((0 : Nat) : Rat) * x * hn n = 1 by rw [show ((0 : Nat) : Rat) = 0 from rfl]; grind, sqn_one]
    exact Rat.le_refl
  | succ k ih =>
    have := ih.add h
    rwa [show (k : Rat) * x + x = ((k + 1 : Nat) : Rat) * x by rw [show ((k + 1 : Nat) : Rat) = (k : Rat) + 1 by push_cast; rfl]; grind] at this
theorem rp_pos {b : Rat} (h : 0 < b) (j : Nat) : 0 < rp b j := by
  induction j with
  | zero => show (0 : Rat) < 1; grind
  | succ j ih => exact Rat.mul_pos ih h
theorem LoE.rp {x a : Rat} (h : LoE a x) (ha : 0 < a) (k : Nat) : LoE (rp a k) ((k : Rat) * x) := by
  induction k with
  | zero =>
    refine ⟨0, fun n _ => ?_⟩
    unfold exF
    rw [show (1 : Rat) + -(((0 : Nat) : Rat) * x) * hn n = 1 by rw [show ((0 : Nat) : Rat) = 0 from rfl]; grind, sqn_one]
    show (1 : Rat) * 1 ≤ 1
    grind
  | succ k ih =>
    have := ih.add h (rp_pos ha k) ha
    rwa [show (k : Rat) * x + x = ((k + 1 : Nat) : Rat) * x by rw [show ((k + 1 : Nat) : Rat) = (k : Rat) + 1 by push_cast; rfl]; grind] at this
/-- 1 + x is at most the exponential. -/
theorem exp_line (x : Rat) : LoE (1 + x) x := by
  by_cases hx : -1 ≤ x
  · obtain ⟨N, h⟩ := pair_le (x := x)
    obtain ⟨M, hM⟩ := half_base (-x)
    refine ⟨N + M, fun n hn' => ?_⟩
    have h1 := h n (by omega)
    have h2 := exF_pos (hM n (by omega)).1
    have h3 := bern n hx
    have h4 := Rat.mul_le_mul_of_nonneg_right h3 (Rat.le_of_lt h2)
    have e : sqn n (1 + x * hn n) = exF n x := rfl
    rw [e] at h4
    exact Rat.le_trans h4 h1
  · exact (LoE.zero x).down (by grind)
theorem exp_0 : LoE 1 0 ∧ UpE 0 1 := by
  refine ⟨?_, ⟨0, fun n _ => ?_⟩⟩
  · have := exp_line 0
    rwa [show (1 : Rat) + 0 = 1 by grind] at this
  · unfold exF
    rw [show (1 : Rat) + 0 * hn n = 1 by grind, sqn_one]
    exact Rat.le_refl
/-- The ceiling of a quotient. -/
def cdv (x n : Int) : Int := -(-x / n)
theorem cdv_le {x n k : Int} (hn : 0 < n) : cdv x n ≤ k ↔ x ≤ k * n := by
  unfold cdv
  have h : -k ≤ -x / n ↔ -k * n ≤ -x := Int.le_ediv_iff_mul_le hn
  rw [Int.neg_mul] at h
  omega
theorem le_cdv {x n : Int} (hn : 0 < n) : x ≤ cdv x n * n := (cdv_le hn).1 (Int.le_refl _)
theorem div_cdv {x y n : Int} (hn : 0 < n) (h : x ≤ y) : x / n ≤ cdv y n := by
  have h1 := Int.ediv_mul_le x (show n ≠ 0 by omega)
  have h2 := le_cdv (x := y) hn
  exact Int.le_of_mul_le_mul_right (Int.le_trans h1 (Int.le_trans h h2)) hn
/-- Whether a span is tiny. -/
def tnB (a b : Int) : Bool := decide (a.natAbs ≤ 1) && decide (b.natAbs ≤ 1)
def AbP (x : Int) (j : Nat) : Prop := x.natAbs ≤ 2 ^ j
theorem AbP.zl {x : Int} {j : Nat} (h : AbP x j) : zl x ≤ j / 32 + 1 := Nat.le_trans (len_mono h) (len_two j)
theorem AbP.up {x : Int} {j k : Nat} (h : AbP x j) (hk : j ≤ k) : AbP x k := Nat.le_trans h (Nat.pow_le_pow_right (by omega) hk)
theorem AbP.add {x y : Int} {j : Nat} (h1 : AbP x j) (h2 : AbP y j) : AbP (x + y) (j + 1) := by
  unfold AbP at *
  rw [Nat.pow_succ]
  omega
theorem AbP.neg {x : Int} {j : Nat} (h : AbP x j) : AbP (-x) j := by
  unfold AbP at *
  rw [Int.natAbs_neg]; exact h
theorem AbP.zero (j : Nat) : AbP 0 j := Nat.zero_le _
theorem AbP.mul {x y : Int} {j k : Nat} (h1 : AbP x j) (h2 : AbP y k) : AbP (x * y) (j + k) := by
  unfold AbP at *
  rw [Int.natAbs_mul, Nat.pow_add]
  exact Nat.mul_le_mul h1 h2
/-- A term of a series: not negative, and at most 2^f. -/
def Tm (a b : Int) (f : Nat) : Prop := 0 ≤ a ∧ a ≤ b ∧ b ≤ ((2 ^ f : Nat) : Int)
theorem Tm.abs {a b : Int} {f : Nat} (h : Tm a b f) : AbP a f ∧ AbP b f := by
  unfold Tm at h; unfold AbP
  obtain ⟨P, hP⟩ : ∃ P : Nat, 2 ^ f = P := ⟨_, rfl⟩
  rw [hP] at h ⊢
  omega
theorem Tm.up {a b : Int} {f g : Nat} (h : Tm a b f) (hg : f ≤ g) : Tm a b g := by
  have := Nat.pow_le_pow_right (n := 2) (by omega) hg
  unfold Tm at *
  obtain ⟨P, hP⟩ : ∃ P : Nat, 2 ^ f = P := ⟨_, rfl⟩
  obtain ⟨Q, hQ⟩ : ∃ P : Nat, 2 ^ g = P := ⟨_, rfl⟩
  rw [hP] at this h
  rw [hQ] at this ⊢
  omega
theorem Tm.half {a b n : Int} {f : Nat} (hn : 2 ≤ n) (h : Tm a b (f + 1)) : Tm (a / n) (cdv b n) f := by
  refine ⟨Int.ediv_nonneg h.1 (by omega), div_cdv (by omega) h.2.1, (cdv_le (by omega)).2 (Int.le_trans h.2.2 ?_)⟩
  have h0 : (0 : Int) ≤ ((2 ^ f : Nat) : Int) := Int.natCast_nonneg _
  have := Int.mul_le_mul_of_nonneg_left hn h0
  rw [Nat.pow_succ]
  omega
theorem Tm.pos {a b : Int} {f : Nat} (h : Tm a b f) (ht : tnB a b = false) : ∃ g, f = g + 1 := by
  match f with
  | g + 1 => exact ⟨g, rfl⟩
  | 0 =>
    have e : ((2 ^ 0 : Nat) : Int) = 1 := rfl
    obtain ⟨h0, h1, h2⟩ := h
    rw [e] at h2
    unfold tnB at ht
    rw [decide_eq_true (show a.natAbs ≤ 1 by omega), decide_eq_true (show b.natAbs ≤ 1 by omega)] at ht
    cases ht
theorem tm_one (v : Nat) : Tm (2 ^ v) (2 ^ v) v := by
  have e : ((2 ^ v : Nat) : Int) = 2 ^ v := by simp
  have := pow2_pos v
  unfold Tm
  omega
/-- The span from a to b in units of 2^-v contains a fraction. -/
def SpC (a b : Int) (v : Nat) (q : Rat) : Prop := dq a (-(v : Int)) ≤ q ∧ q ≤ dq b (-(v : Int))
theorem SpC.le {a b : Int} {v : Nat} {q : Rat} (h : SpC a b v q) : a ≤ b := (dq_le_iff _ _ _).1 (Rat.le_trans h.1 h.2)
theorem dq_addI (a b e : Int) : dq (a + b) e = dq a e + dq b e := by
  rw [dq_scale, dq_scale a, dq_scale b, Rat.intCast_add, Rat.add_mul]
theorem SpC.add {a b c d : Int} {v : Nat} {q r : Rat} (h : SpC a b v q) (k : SpC c d v r) : SpC (a + c) (b + d) v (q + r) := by
  obtain ⟨h1, h2⟩ := h
  obtain ⟨k1, k2⟩ := k
  unfold SpC
  rw [dq_addI, dq_addI]
  grind
theorem SpC.neg {a b : Int} {v : Nat} {q : Rat} (h : SpC a b v q) : SpC (-b) (-a) v (-q) := by
  obtain ⟨h1, h2⟩ := h
  unfold SpC
  rw [dq_neg, dq_neg]
  grind
theorem SpC.of (n : Int) (v : Nat) : SpC (n * 2 ^ v) (n * 2 ^ v) v (n : Rat) := by
  have e : dq (n * 2 ^ v) (-(v : Int)) = (n : Rat) := by
    rw [← dq_int]
    refine dq_eq (F := -(v : Int)) ?_ (by omega) (by omega)
    rw [show (-(v : Int) - -(v : Int)).toNat = 0 by omega, show (0 - -(v : Int)).toNat = v by omega]
    simp
  unfold SpC
  rw [e]
  exact ⟨Rat.le_refl, Rat.le_refl⟩
theorem SpC.at (q : Rat) (v : Nat) : SpC (cutQ q (v : Int)) (-(cutQ (-q) (v : Int))) v q := by
  refine ⟨cut_lo q _, ?_⟩
  have := cut_lo (-q) (v : Int)
  rw [dq_neg]
  grind
/-- Floors and ceilings of quotients. -/
theorem fdiv_le {x n : Int} (hn : 0 < n) (e : Int) : dq (x / n) e * (n : Rat) ≤ dq x e := by
  have h := Int.ediv_mul_le x (show n ≠ 0 by omega)
  have := (dq_le_iff (x / n * n) x e).2 h
  rw [dq_scale, Rat.intCast_mul] at this
  rw [dq_scale (x / n)]
  grind
theorem le_cdiv {x n : Int} (hn : 0 < n) (e : Int) : dq x e ≤ dq (cdv x n) e * (n : Rat) := by
  have h := le_cdv (x := x) hn
  have := (dq_le_iff x (cdv x n * n) e).2 h
  rw [dq_scale (cdv x n * n), Rat.intCast_mul] at this
  rw [dq_scale (cdv x n)]
  grind
theorem SpC.over {a b n : Int} {v : Nat} {q : Rat} (h : SpC a b v q) (hn : 0 < n) : SpC (a / n) (cdv b n) v (q / (n : Rat)) := by
  obtain ⟨h1, h2⟩ := h
  have hp : (0 : Rat) < (n : Rat) := by exact_mod_cast hn
  have e : q / (n : Rat) * (n : Rat) = q := Rat.div_mul_cancel (by grind)
  refine ⟨le_of_mul hp ?_, le_of_mul hp ?_⟩
  · rw [e]; exact Rat.le_trans (fdiv_le hn _) h1
  · rw [e]; exact Rat.le_trans h2 (le_cdiv hn _)
/-- Products. -/
def mn4 (a b c d : Int) : Int := min (min a b) (min c d)
def mx4 (a b c d : Int) : Int := max (max a b) (max c d)
theorem two_cast (v : Nat) : (((2 : Int) ^ v : Int) : Rat) * dq 1 (-(v : Int)) = 1 := by
  rw [← dq_scale]
  have := (SpC.of 1 v).1
  have h2 := (SpC.of 1 v).2
  rw [Int.one_mul] at this h2
  have e : ((1 : Int) : Rat) = 1 := rfl
  rw [e] at this h2
  grind
/-- A product of two spans, rounded outwards, from bounds of the product in units of 2^-2v. -/
theorem shr_lo {x : Int} {v : Nat} {q : Rat} (h : (x : Rat) * (dq 1 (-(v : Int)) * dq 1 (-(v : Int))) ≤ q) : dq (x / 2 ^ v) (-(v : Int)) ≤ q := by
  refine Rat.le_trans ?_ h
  have h1 := fdiv_le (x := x) (n := 2 ^ v) (pow2_pos v) (-(v : Int))
  have h2 := two_cast v
  have h3 := dq_pos (-(v : Int))
  have h4 := Rat.mul_le_mul_of_nonneg_right h1 (Rat.le_of_lt h3)
  rw [dq_scale x] at h4
  have e : dq (x / 2 ^ v) (-(v : Int)) * (((2 : Int) ^ v : Int) : Rat) * dq 1 (-(v : Int)) = dq (x / 2 ^ v) (-(v : Int)) := by
    rw [Rat.mul_assoc, h2]
    grind
  rw [e] at h4
  grind
theorem shr_hi {x : Int} {v : Nat} {q : Rat} (h : q ≤ (x : Rat) * (dq 1 (-(v : Int)) * dq 1 (-(v : Int)))) : q ≤ dq (cdv x (2 ^ v)) (-(v : Int)) := by
  refine Rat.le_trans h ?_
  have h1 := le_cdiv (x := x) (n := 2 ^ v) (pow2_pos v) (-(v : Int))
  have h2 := two_cast v
  have h3 := dq_pos (-(v : Int))
  have h4 := Rat.mul_le_mul_of_nonneg_right h1 (Rat.le_of_lt h3)
  rw [dq_scale x] at h4
  have e : dq (cdv x (2 ^ v)) (-(v : Int)) * (((2 : Int) ^ v : Int) : Rat) * dq 1 (-(v : Int)) = dq (cdv x (2 ^ v)) (-(v : Int)) := by
    rw [Rat.mul_assoc, h2]
    grind
  rw [e] at h4
  grind
theorem prod_dq (a c : Int) (v : Nat) : dq a (-(v : Int)) * dq c (-(v : Int)) = ((a * c : Int) : Rat) * (dq 1 (-(v : Int)) * dq 1 (-(v : Int))) := by
  rw [dq_scale a, dq_scale c, Rat.intCast_mul]
  grind
/-- What lies between the ends lies between the least and the greatest product. -/
theorem prod_lo {a b c d : Int} {v : Nat} {q r : Rat} (h : SpC a b v q) (k : SpC c d v r) : ((mn4 (a * c) (a * d) (b * c) (b * d) : Int) : Rat) * (dq 1 (-(v : Int)) * dq 1 (-(v : Int))) ≤ q * r := by
  obtain ⟨h1, h2⟩ := h
  obtain ⟨k1, k2⟩ := k
  have hu := dq_pos (-(v : Int))
  have huu : 0 ≤ dq 1 (-(v : Int)) * dq 1 (-(v : Int)) := rsq_nn _
  have m : ∀ x : Int, mn4 (a * c) (a * d) (b * c) (b * d) ≤ x → ((mn4 (a * c) (a * d) (b * c) (b * d) : Int) : Rat) * (dq 1 (-(v : Int)) * dq 1 (-(v : Int))) ≤ ((x : Int) : Rat) * (dq 1 (-(v : Int)) * dq 1 (-(v : Int))) := fun x hx => Rat.mul_le_mul_of_nonneg_right (Rat.intCast_le_intCast.2 hx) huu
  have m1 := m (a * c) (by unfold mn4; omega)
  have m2 := m (a * d) (by unfold mn4; omega)
  have m3 := m (b * c) (by unfold mn4; omega)
  have m4 := m (b * d) (by unfold mn4; omega)
  rw [← prod_dq] at m1 m2 m3 m4
  generalize ((mn4 (a * c) (a * d) (b * c) (b * d) : Int) : Rat) * (dq 1 (-(v : Int)) * dq 1 (-(v : Int))) = L at *
  generalize dq a (-(v : Int)) = A at *
  generalize dq b (-(v : Int)) = B at *
  generalize dq c (-(v : Int)) = C at *
  generalize dq d (-(v : Int)) = D at *
  by_cases hr : 0 ≤ r
  · have e1 := Rat.mul_le_mul_of_nonneg_right h1 hr
    by_cases hA : 0 ≤ A
    · have := Rat.mul_le_mul_of_nonneg_left k1 hA
      grind
    · have := Rat.mul_le_mul_of_nonneg_left k2 (show 0 ≤ -A by grind)
      grind
  · have e1 := Rat.mul_le_mul_of_nonneg_right h2 (show 0 ≤ -r by grind)
    by_cases hB : 0 ≤ B
    · have := Rat.mul_le_mul_of_nonneg_left k1 hB
      grind
    · have := Rat.mul_le_mul_of_nonneg_left k2 (show 0 ≤ -B by grind)
      grind
theorem mx4_neg (a b c d : Int) : mx4 a b c d = -(mn4 (-a) (-b) (-c) (-d)) := by
  unfold mx4 mn4
  omega
theorem prod_hi {a b c d : Int} {v : Nat} {q r : Rat} (h : SpC a b v q) (k : SpC c d v r) : q * r ≤ ((mx4 (a * c) (a * d) (b * c) (b * d) : Int) : Rat) * (dq 1 (-(v : Int)) * dq 1 (-(v : Int))) := by
  have h1 := prod_lo h.neg k
  have e : mn4 (-b * c) (-b * d) (-a * c) (-a * d) = -(mx4 (a * c) (a * d) (b * c) (b * d)) := by
    rw [mx4_neg, Int.neg_mul, Int.neg_mul, Int.neg_mul, Int.neg_mul]
    unfold mn4
    omega
  rw [e, Rat.intCast_neg] at h1
  grind
theorem SpC.mul {a b c d : Int} {v : Nat} {q r : Rat} (h : SpC a b v q) (k : SpC c d v r) : SpC (mn4 (a * c) (a * d) (b * c) (b * d) / 2 ^ v) (cdv (mx4 (a * c) (a * d) (b * c) (b * d)) (2 ^ v)) v (q * r) :=
  ⟨shr_lo (prod_lo h k), shr_hi (prod_hi h k)⟩
/-- The span contains the exponential of x. -/
def RSp (a b : Int) (v : Nat) (x : Rat) : Prop := LoE (dq a (-(v : Int))) x ∧ UpE x (dq b (-(v : Int)))
/-- A sum of the series, widened by three units, when the last term is at most one. -/
theorem RSp.series {a b : Int} {v K : Nat} {y : Rat} (h : SpC a b v (esm (K + 1) y)) (hy : 8 * rab y ≤ 1) (ht : tm K (rab y) ≤ dq 1 (-(v : Int))) : RSp (a - 3) (b + 3) v y := by
  have h0 := rab_nn y
  have hu := dq_pos (-(v : Int))
  have h1 := tm_mul K (rab y)
  have h2 := tm_nn K h0
  have h3 := tm_nn (K + 1) h0
  have hK := nat_nn K
  have h4 : 2 * tm (K + 1) (rab y) ≤ dq 1 (-(v : Int)) := by
    have q1 := Rat.mul_le_mul_of_nonneg_left (show rab y ≤ 1 / 8 by grind) h2
    have q2 := Rat.mul_le_mul_of_nonneg_left (show 1 ≤ (K : Rat) + 1 by grind) h3
    grind
  have e3 : dq 3 (-(v : Int)) = 3 * dq 1 (-(v : Int)) := dq_scale 3 _
  refine ⟨(exp_lo K y).down ?_, (exp_up K (by grind)).up ?_⟩
  · rw [Int.sub_eq_add_neg, dq_addI, dq_neg, e3]
    have := h.1
    grind
  · rw [dq_addI, e3]
    have := h.2
    grind
/-- The square. -/
theorem RSp.sq {a b : Int} {v : Nat} {x : Rat} (h : RSp a b v x) : RSp (mn4 (a * a) (a * b) (b * a) (b * b) / 2 ^ v) (cdv (mx4 (a * a) (a * b) (b * a) (b * b)) (2 ^ v)) v (2 * x) := by
  obtain ⟨h1, h2⟩ := h
  have hb := h2.pos
  have hle := h1.le h2
  have s : SpC a b v (dq b (-(v : Int))) := ⟨hle, Rat.le_refl⟩
  refine ⟨?_, h2.dbl.up (shr_hi (prod_hi s s))⟩
  by_cases ha : 0 ≤ dq a (-(v : Int))
  · have s2 : SpC a b v (dq a (-(v : Int))) := ⟨Rat.le_refl, hle⟩
    exact (h1.dbl ha).down (shr_lo (prod_lo s2 s2))
  · refine (LoE.zero _).down (shr_lo ?_)
    have s3 : SpC a b v 0 := ⟨by grind, Rat.le_of_lt hb⟩
    have := prod_lo s3 s
    grind

/-- The next term of the series, in units of 2^-p. -/
def pwT (X : Int) (p k : Nat) (T : Int) : Int := T * X / 2 ^ p / (k : Int)
/-- How many terms come behind this one, at most. -/
def fz (T : Int) : Nat := if T = 0 then 0 else if T = -1 then 1 else if T = 1 then 2 else Nat.log2 T.natAbs / 16 + 3
theorem fz_ge {T : Int} (h : 2 ≤ T.natAbs) : fz T = Nat.log2 T.natAbs / 16 + 3 := by
  unfold fz
  rw [if_neg (by omega), if_neg (by omega), if_neg (by omega)]
theorem fz_le {T : Int} (h : T.natAbs ≤ 1) : fz T ≤ 2 := by
  unfold fz
  split
  · omega
  · split
    · omega
    · rw [if_pos (by omega)]
      exact Nat.le_refl 2
theorem log_up {a b : Nat} (ha : 1 ≤ a) (h : a * 65536 ≤ b) : Nat.log2 a + 16 ≤ Nat.log2 b := by
  rw [Nat.le_log2 (by omega), Nat.pow_add]
  have := Nat.log2_self_le (n := a) (by omega)
  have e : (2 : Nat) ^ 16 = 65536 := by decide
  rw [e]
  exact Nat.le_trans (Nat.mul_le_mul_right 65536 this) h
theorem fz_two (p : Nat) : fz (2 ^ p) ≤ p / 16 + 3 := by
  have e : ((2 : Int) ^ p).natAbs = 2 ^ p := by rw [Int.natAbs_pow]; rfl
  by_cases h : 2 ≤ ((2 : Int) ^ p).natAbs
  · rw [fz_ge h, e, Nat.log2_two_pow]
    omega
  · have := fz_le (T := 2 ^ p) (by omega)
    omega
/-- How large the next term is, and of which sign. -/
theorem pwT_sz {X T : Int} {p k : Nat} (hX : X.natAbs * 2 ^ 32 ≤ 2 ^ p) (hk : 1 ≤ k) :
    (pwT X p k T).natAbs ≤ T.natAbs / 4294967296 + 1 ∧ (0 ≤ T * X → 0 ≤ pwT X p k T ∧ (pwT X p k T).natAbs ≤ T.natAbs / 4294967296) ∧ (T * X ≤ 0 → pwT X p k T ≤ 0) := by
  unfold pwT
  have hp := pow2_pos p
  have ep : (((2 : Nat) ^ p : Nat) : Int) = 2 ^ p := by simp
  obtain ⟨P, hP⟩ : ∃ P : Nat, 2 ^ p = P := ⟨_, rfl⟩
  rw [hP] at ep hX
  rw [← ep] at hp ⊢
  have e32 : (2 : Nat) ^ 32 = 4294967296 := by decide
  rw [e32] at hX
  have hm : (T * X).natAbs * 4294967296 ≤ T.natAbs * P := by
    rw [Int.natAbs_mul, Nat.mul_assoc]
    exact Nat.mul_le_mul_left _ hX
  obtain ⟨D, hD⟩ : ∃ D, T.natAbs / 4294967296 = D := ⟨_, rfl⟩
  have hD2 : T.natAbs < (D + 1) * 4294967296 := by omega
  rw [hD]
  have hY : (T * X).natAbs < (D + 1) * P := by
    have h1 : T.natAbs * P < (D + 1) * 4294967296 * P := Nat.mul_lt_mul_of_pos_right hD2 (by omega)
    have h2 : (D + 1) * 4294967296 * P = (D + 1) * P * 4294967296 := by rw [Nat.mul_right_comm]
    rw [h2] at h1
    exact Nat.lt_of_mul_lt_mul_right (Nat.lt_of_le_of_lt hm h1)
  have hY2 : ((T * X).natAbs : Int) < ((D : Int) + 1) * (P : Int) := by exact_mod_cast hY
  obtain ⟨Y, hYe⟩ : ∃ Y, T * X / (P : Int) = Y := ⟨_, rfl⟩
  have y1 : Y < (D : Int) + 1 := by
    rw [← hYe]
    exact (Int.ediv_lt_iff_lt_mul hp).2 (by omega)
  have y2 : -((D : Int) + 1) ≤ Y := by
    rw [← hYe]
    refine (Int.le_ediv_iff_mul_le hp).2 ?_
    rw [Int.neg_mul]
    omega
  rw [hYe]
  have hk0 : (0 : Int) < (k : Int) := by omega
  have z0 : (Y / (k : Int)).natAbs ≤ Y.natAbs := Int.natAbs_ediv_le_natAbs _ _
  refine ⟨by omega, fun h => ?_, fun h => ?_⟩
  · have y3 : 0 ≤ Y := by rw [← hYe]; exact Int.ediv_nonneg h (by omega)
    have z3 : 0 ≤ Y / (k : Int) := Int.ediv_nonneg y3 (by omega)
    exact ⟨z3, by omega⟩
  · have y3 : Y ≤ 0 := by
      rw [← hYe]
      exact Int.ediv_le_of_le_mul hp (by omega)
    exact Int.ediv_le_of_le_mul hk0 (by omega)
theorem fz_step {X T : Int} {p k : Nat} (hX : X.natAbs * 2 ^ 32 ≤ 2 ^ p) (hk : 1 ≤ k) (hs : 0 ≤ X → 0 ≤ T) (h0 : T ≠ 0) : fz (pwT X p k T) + 1 ≤ fz T := by
  obtain ⟨a1, a2, _⟩ := pwT_sz (T := T) hX hk
  obtain ⟨Z, hZ⟩ : ∃ Z, pwT X p k T = Z := ⟨_, rfl⟩
  rw [hZ] at a1 a2 ⊢
  by_cases h2 : 2 ≤ T.natAbs
  · rw [fz_ge h2]
    by_cases h3 : 2 ≤ Z.natAbs
    · rw [fz_ge h3]
      have hq := Nat.div_mul_le_self T.natAbs 4294967296
      generalize T.natAbs / 4294967296 = q at *
      generalize Z.natAbs = z at *
      generalize T.natAbs = t at *
      have h5 : z * 65536 ≤ (q + 1) * 65536 := Nat.mul_le_mul_right _ a1
      have h6 : (q + 1) * 65536 ≤ t := by
        have h7 : q + 1 ≤ q * 2 := by omega
        refine Nat.le_trans (Nat.mul_le_mul_right _ h7) (Nat.le_trans ?_ hq)
        rw [Nat.mul_assoc]
        exact Nat.mul_le_mul_left q (by decide)
      have := log_up (a := z) (b := t) (by omega) (Nat.le_trans h5 h6)
      omega
    · have := fz_le (T := Z) (by omega)
      omega
  · have hz0 : 0 ≤ T * X → fz Z = 0 := fun h => by
      have := (a2 h).2
      unfold fz
      rw [if_pos (by omega)]
    by_cases h3 : T = -1
    · have e : fz T = 1 := by unfold fz; rw [if_neg h0, if_pos h3]
      have hX0 : X ≤ 0 := by
        refine Int.not_lt.1 fun h => ?_
        have := hs (by omega)
        omega
      rw [e, hz0 (by rw [h3]; omega)]
      omega
    · have h4 : T = 1 := by omega
      have e : fz T = 2 := by unfold fz; rw [if_neg h0, if_neg h3, if_pos h4]
      rw [e]
      by_cases hX0 : 0 ≤ X
      · rw [hz0 (by rw [h4]; omega)]
        omega
      · have hn := (pwT_sz (T := T) hX hk).2.2 (by rw [h4]; omega)
        rw [hZ] at hn
        unfold fz
        (repeat' split) <;> omega
/-- The next term as a fraction. -/
theorem int_fl {a n : Int} (hn : 0 < n) : (((a / n : Int)) : Rat) * (n : Rat) ≤ (a : Rat) ∧ (a : Rat) ≤ ((a / n : Int) : Rat) * (n : Rat) + (n : Rat) := by
  have h1 := Int.ediv_mul_le a (show n ≠ 0 by omega)
  have h2 := Int.lt_ediv_add_one_mul_self a hn
  have h3 := Rat.intCast_le_intCast.2 h1
  have h4 := Rat.intCast_le_intCast.2 (Int.le_of_lt h2)
  rw [Rat.intCast_mul] at h3 h4
  rw [Rat.intCast_add] at h4
  have e : ((1 : Int) : Rat) = 1 := rfl
  rw [e] at h4
  exact ⟨h3, by grind⟩
theorem pwT_rat (X T : Int) (p : Nat) {k : Nat} (hk : 1 ≤ k) :
    dq (pwT X p k T) (-(p : Int)) * (k : Rat) ≤ dq T (-(p : Int)) * dq X (-(p : Int)) ∧ dq T (-(p : Int)) * dq X (-(p : Int)) ≤ dq (pwT X p k T) (-(p : Int)) * (k : Rat) + ((k : Rat) + 1) * dq 1 (-(p : Int)) := by
  unfold pwT
  have hu := dq_pos (-(p : Int))
  have hc := two_cast p
  rw [dq_scale (T * X / 2 ^ p / (k : Int)), dq_scale T, dq_scale X]
  obtain ⟨Y, hY⟩ : ∃ Y, T * X / 2 ^ p = Y := ⟨_, rfl⟩
  obtain ⟨a1, a2⟩ := int_fl (a := T * X) (n := 2 ^ p) (pow2_pos p)
  obtain ⟨b1, b2⟩ := int_fl (a := Y) (n := (k : Int)) (by omega)
  rw [hY] at a1 a2 ⊢
  rw [Rat.intCast_mul] at a1 a2
  rw [Rat.intCast_natCast] at b1 b2
  generalize dq 1 (-(p : Int)) = u at *
  generalize (((2 : Int) ^ p : Int) : Rat) = P at *
  generalize ((Y / (k : Int) : Int) : Rat) = Z at *
  generalize (Y : Rat) = y at *
  generalize (T : Rat) = t at *
  generalize (X : Rat) = x at *
  generalize (k : Rat) = kk at *
  -- y u <= t u x u <= (y + 1) u
  have c1 : y * u ≤ t * u * (x * u) := by
    have := Rat.mul_le_mul_of_nonneg_right a1 (Rat.le_of_lt (Rat.mul_pos hu hu))
    rw [show y * P * (u * u) = y * u * (P * u) by grind, hc] at this
    grind
  have c2 : t * u * (x * u) ≤ y * u + u := by
    have := Rat.mul_le_mul_of_nonneg_right a2 (Rat.le_of_lt (Rat.mul_pos hu hu))
    rw [show (y * P + P) * (u * u) = (y * u + u) * (P * u) by grind, hc] at this
    grind
  have d1 := Rat.mul_le_mul_of_nonneg_right b1 (Rat.le_of_lt hu)
  have d2 := Rat.mul_le_mul_of_nonneg_right b2 (Rat.le_of_lt hu)
  constructor <;> grind
/-- What is known at the head of round k: the term before it and the sum so far. -/
structure ExR (X : Int) (p k : Nat) (T S : Int) : Prop where
  k1 : 1 ≤ k
  fk : k + fz T ≤ p / 16 + 4
  sp : 0 ≤ X → 0 ≤ T ∧ 2 ^ p ≤ S
  sn : X ≤ 0 → S ≤ 2 ^ p ∧ S ≤ 2 ^ p + T
  ta : T.natAbs ≤ 2 ^ p
  sa : S.natAbs ≤ k * 2 ^ p
  tl : tm (k - 1) (dq X (-(p : Int))) - 3 * dq 1 (-(p : Int)) ≤ dq T (-(p : Int)) ∧ dq T (-(p : Int)) ≤ tm (k - 1) (dq X (-(p : Int))) + 3 * dq 1 (-(p : Int))
  sl : esm k (dq X (-(p : Int))) - 3 * (k : Rat) * dq 1 (-(p : Int)) ≤ dq S (-(p : Int)) ∧ dq S (-(p : Int)) ≤ esm k (dq X (-(p : Int))) + 3 * (k : Rat) * dq 1 (-(p : Int))
theorem dq_onep (p : Nat) : dq (2 ^ p) (-(p : Int)) = 1 := by
  rw [dq_scale]
  exact two_cast p
theorem ExR.first (X : Int) (p : Nat) : ExR X p 1 (2 ^ p) (2 ^ p) := by
  have e : ((2 : Int) ^ p).natAbs = 2 ^ p := by rw [Int.natAbs_pow]; rfl
  have hp := pow2_pos p
  have hf := fz_two p
  have hu := dq_pos (-(p : Int))
  have e0 : tm (1 - 1) (dq X (-(p : Int))) = 1 := rfl
  have e1 : esm 1 (dq X (-(p : Int))) = 1 := by show (0 : Rat) + 1 = 1; grind
  have e2 : ((1 : Nat) : Rat) = 1 := rfl
  refine ⟨by omega, by omega, fun _ => ⟨by omega, Int.le_refl _⟩, fun _ => ⟨Int.le_refl _, by omega⟩, by omega, by omega, ?_, ?_⟩
  · rw [dq_onep, e0]; grind
  · rw [dq_onep, e1, e2]; grind
theorem ExR.step {X : Int} {p k : Nat} {T S : Int} (hX : X.natAbs * 2 ^ 32 ≤ 2 ^ p) (h : ExR X p k T S) (h0 : T ≠ 0) : ExR X p (k + 1) (pwT X p k T) (S + pwT X p k T) := by
  obtain ⟨k1, fk, sp, sn, ta, sa, ⟨t1, t2⟩, ⟨s1, s2⟩⟩ := h
  have hz := fz_step hX k1 (fun h => (sp h).1) h0
  obtain ⟨a1, a2, a3⟩ := pwT_sz (T := T) hX k1
  obtain ⟨r1, r2⟩ := pwT_rat X T p k1
  have hu := dq_pos (-(p : Int))
  have hx : -(1 / 8) ≤ dq X (-(p : Int)) ∧ dq X (-(p : Int)) ≤ 1 / 8 := by
    have e : (((2 : Nat) ^ p : Nat) : Int) = 2 ^ p := by simp
    have h1 : -(2 ^ p) ≤ X * 8 := by rw [← e]; omega
    have h2 : X * 8 ≤ 2 ^ p := by rw [← e]; omega
    have g1 := (dq_le_iff _ _ (-(p : Int))).2 h1
    have g2 := (dq_le_iff _ _ (-(p : Int))).2 h2
    rw [dq_neg, dq_onep, dq_scale (X * 8), Rat.intCast_mul] at g1
    rw [dq_onep, dq_scale (X * 8), Rat.intCast_mul] at g2
    rw [dq_scale X]
    have e8 : ((8 : Int) : Rat) = 8 := rfl
    rw [e8] at g1 g2
    constructor <;> grind
  obtain ⟨Z, hZ⟩ : ∃ Z, pwT X p k T = Z := ⟨_, rfl⟩
  rw [hZ] at hz a1 a2 a3 r1 r2 ⊢
  have hpn : 0 < 2 ^ p := Nat.pow_pos (by omega)
  have eP : (((2 : Nat) ^ p : Nat) : Int) = 2 ^ p := by simp
  have kr : (1 : Rat) ≤ (k : Rat) := by exact_mod_cast k1
  have ht : tm (k + 1 - 1) (dq X (-(p : Int))) - 3 * dq 1 (-(p : Int)) ≤ dq Z (-(p : Int)) ∧ dq Z (-(p : Int)) ≤ tm (k + 1 - 1) (dq X (-(p : Int))) + 3 * dq 1 (-(p : Int)) := by
    have tmm := tm_mul (k - 1) (dq X (-(p : Int)))
    have ek : (((k - 1 : Nat) : Rat)) + 1 = (k : Rat) := by
      have : (((k - 1) + 1 : Nat) : Rat) = (((k - 1 : Nat) : Rat)) + 1 := by push_cast; rfl
      rw [← this, show k - 1 + 1 = k by omega]
    rw [ek, show k - 1 + 1 = k by omega] at tmm
    rw [show k + 1 - 1 = k by omega]
    generalize dq X (-(p : Int)) = x at *
    generalize tm (k - 1) x = m at *
    generalize tm k x = m2 at *
    generalize dq T (-(p : Int)) = t at *
    generalize dq Z (-(p : Int)) = z at *
    generalize dq 1 (-(p : Int)) = u at *
    generalize (k : Rat) = kk at *
    have q : -(3 / 8 * u) ≤ t * x - m * x ∧ t * x - m * x ≤ 3 / 8 * u := by
      obtain ⟨x1, x2⟩ := hx
      by_cases hx0 : 0 ≤ x
      · have w1 := Rat.mul_le_mul_of_nonneg_right t1 hx0
        have w2 := Rat.mul_le_mul_of_nonneg_right t2 hx0
        have w3 := Rat.mul_le_mul_of_nonneg_left x2 (Rat.le_of_lt hu)
        constructor <;> grind
      · have w1 := Rat.mul_le_mul_of_nonneg_right t1 (show 0 ≤ -x by grind)
        have w2 := Rat.mul_le_mul_of_nonneg_right t2 (show 0 ≤ -x by grind)
        have w3 := Rat.mul_le_mul_of_nonneg_left x1 (Rat.le_of_lt hu)
        constructor <;> grind
    have w := Rat.mul_le_mul_of_nonneg_right kr (Rat.le_of_lt hu)
    refine ⟨le_of_mul (c := kk) (by grind) ?_, le_of_mul (c := kk) (by grind) ?_⟩ <;> grind
  refine ⟨by omega, by omega, fun h => ?_, fun h => ?_, ?_, ?_, ht, ?_⟩
  · obtain ⟨b1, b2⟩ := sp h
    have := (a2 (Int.mul_nonneg b1 h)).1
    exact ⟨this, by omega⟩
  · obtain ⟨b1, b2⟩ := sn h
    by_cases hT : 0 ≤ T
    · have := a3 (Int.mul_nonpos_of_nonneg_of_nonpos hT h)
      omega
    · have := a2 (Int.mul_nonneg_of_nonpos_of_nonpos (by omega) h)
      omega
  · omega
  · have e : (k + 1) * 2 ^ p = k * 2 ^ p + 2 ^ p := by rw [Nat.succ_mul]
    omega
  · have e1 : esm (k + 1) (dq X (-(p : Int))) = esm k (dq X (-(p : Int))) + tm k (dq X (-(p : Int))) := rfl
    have e2 : ((k + 1 : Nat) : Rat) = (k : Rat) + 1 := by push_cast; rfl
    rw [show k + 1 - 1 = k by omega] at ht
    rw [e1, e2, dq_addI]
    constructor <;> grind
/-- The sum, when the term has become zero. -/
theorem ExR.last {X : Int} {p k : Nat} {S : Int} (hX : X.natAbs * 2 ^ 32 ≤ 2 ^ p) (h : ExR X p k 0 S) (hk : 2 ≤ k) :
    LoE (dq S (-(p : Int)) - (3 * (k : Rat) + 3) * dq 1 (-(p : Int))) (dq X (-(p : Int))) ∧ UpE (dq X (-(p : Int))) (dq S (-(p : Int)) + (3 * (k : Rat) + 3) * dq 1 (-(p : Int))) := by
  obtain ⟨k1, fk, sp, sn, ta, sa, ⟨t1, t2⟩, ⟨s1, s2⟩⟩ := h
  have hu := dq_pos (-(p : Int))
  rw [dq_zero] at t1 t2
  have hx : rab (dq X (-(p : Int))) ≤ 1 / 8 := by
    have e : (((2 : Nat) ^ p : Nat) : Int) = 2 ^ p := by simp
    have h1 : -(2 ^ p) ≤ X * 8 := by rw [← e]; omega
    have h2 : X * 8 ≤ 2 ^ p := by rw [← e]; omega
    have g1 := (dq_le_iff _ _ (-(p : Int))).2 h1
    have g2 := (dq_le_iff _ _ (-(p : Int))).2 h2
    rw [dq_neg, dq_onep, dq_scale (X * 8), Rat.intCast_mul] at g1
    rw [dq_onep, dq_scale (X * 8), Rat.intCast_mul] at g2
    rw [dq_scale X]
    have e8 : ((8 : Int) : Rat) = 8 := rfl
    rw [e8] at g1 g2
    unfold rab
    split <;> grind
  obtain ⟨j, rfl⟩ : ∃ j, k = j + 1 := ⟨k - 1, by omega⟩
  rw [show j + 1 - 1 = j by omega] at t1 t2
  have h0 := rab_nn (dq X (-(p : Int)))
  have b1 : tm j (rab (dq X (-(p : Int)))) ≤ 3 * dq 1 (-(p : Int)) := by
    unfold rab
    split
    · grind
    · rw [tm_neg]
      rcases sgk_or j with e | e <;> rw [e] <;> grind
  have b2 := tm_mul j (rab (dq X (-(p : Int))))
  have b3 := tm_nn j h0
  have b4 := tm_nn (j + 1) h0
  have hj := nat_nn j
  have b5 : tm (j + 1) (rab (dq X (-(p : Int)))) ≤ dq 1 (-(p : Int)) := by
    have q1 := Rat.mul_le_mul_of_nonneg_left hx b3
    have q2 := Rat.mul_le_mul_of_nonneg_left (show 1 ≤ (j : Rat) + 1 by grind) b4
    grind
  refine ⟨(exp_lo j _).down (by grind), (exp_up j (by grind)).up (by grind)⟩
/-- Powers of a number a little above 1. -/
theorem rp_succ (b : Rat) (n : Nat) : rp b (n + 1) = rp b n * b := rfl
theorem rp_bern {u : Rat} (hu : 0 ≤ u) (n : Nat) : 1 + (n : Rat) * u ≤ rp (1 + u) n := by
  induction n with
  | zero => show 1 + ((0 : Nat) : Rat) * u ≤ 1; rw [show ((0 : Nat) : Rat) = 0 from rfl]; grind
  | succ n ih =>
    have e : ((n + 1 : Nat) : Rat) = (n : Rat) + 1 := by push_cast; rfl
    rw [rp_succ, e]
    have h1 := Rat.mul_le_mul_of_nonneg_right ih (show 0 ≤ 1 + u by grind)
    have h2 := Rat.mul_nonneg (nat_nn n) (rsq_nn u)
    grind
theorem rp_one_le {u : Rat} (hu : 0 ≤ u) (n : Nat) : 1 ≤ rp (1 + u) n := by
  have h1 := rp_bern hu n
  have h2 := Rat.mul_nonneg (nat_nn n) hu
  grind
theorem rp_top {u : Rat} (hu : 0 ≤ u) (n : Nat) (h : (n : Rat) * u ≤ 1) : rp (1 + u) n * (1 - (n : Rat) * u) ≤ 1 := by
  induction n with
  | zero => show (1 : Rat) * (1 - ((0 : Nat) : Rat) * u) ≤ 1; rw [show ((0 : Nat) : Rat) = 0 from rfl]; grind
  | succ n ih =>
    have e : ((n + 1 : Nat) : Rat) = (n : Rat) + 1 := by push_cast; rfl
    rw [rp_succ, e]
    rw [e] at h
    have h0 := Rat.mul_nonneg (nat_nn n) hu
    have h1 := ih (by grind)
    have h2 := Rat.mul_nonneg (nat_nn n) (rsq_nn u)
    have h3 := rsq_nn u
    have h4 : 0 ≤ rp (1 + u) n := rp_nn (by grind) n
    have h5 := Rat.mul_nonneg h4 (show 0 ≤ (n : Rat) * (u * u) + u * u by grind)
    grind
theorem rp_small {u : Rat} (hu : 0 ≤ u) (n : Nat) (h : (n : Rat) * u ≤ 1 / 2) : rp (1 + u) n ≤ 1 + 2 * ((n : Rat) * u) := by
  have h1 := rp_top hu n (by grind)
  have h0 := Rat.mul_nonneg (nat_nn n) hu
  generalize rp (1 + u) n = G at *
  generalize (n : Rat) * u = t at *
  refine le_of_mul (c := 1 - t) (by grind) ?_
  have h2 := Rat.mul_nonneg h0 (show 0 ≤ 1 - 2 * t by grind)
  grind
theorem rp_odd (b : Rat) (n : Nat) : rp b (2 * n + 1) = rp b n * rp b n * b := by
  rw [rp_succ, show 2 * n = n + n by omega, rp_add]
/-- A number s in units of 2^-p is a power of e up to the factor (1 + 2^-p)^n (above 1), or up to that factor less 1 (below). -/
structure PwU (p n : Nat) (s : Int) (y : Rat) : Prop where
  lo : ∃ a, 0 < a ∧ LoE a y ∧ dq s (-(p : Int)) ≤ a * rp (1 + dq 1 (-(p : Int))) n
  up : ∃ b, UpE y b ∧ b ≤ dq s (-(p : Int)) * rp (1 + dq 1 (-(p : Int))) n
  one : 2 ^ p ≤ s
structure PwD (p n : Nat) (s : Int) (y : Rat) : Prop where
  lo : LoE (dq s (-(p : Int)) - (rp (1 + dq 1 (-(p : Int))) n - 1)) y
  up : UpE y (dq s (-(p : Int)) + (rp (1 + dq 1 (-(p : Int))) n - 1))
  nn : 0 ≤ s
  one : s ≤ 2 ^ p
/-- A square, rounded down. -/
theorem sq_rat (s : Int) (p : Nat) : dq (s * s / 2 ^ p) (-(p : Int)) ≤ dq s (-(p : Int)) * dq s (-(p : Int)) ∧ dq s (-(p : Int)) * dq s (-(p : Int)) ≤ dq (s * s / 2 ^ p) (-(p : Int)) + dq 1 (-(p : Int)) := by
  have hu := dq_pos (-(p : Int))
  have hc := two_cast p
  obtain ⟨a1, a2⟩ := int_fl (a := s * s) (n := 2 ^ p) (pow2_pos p)
  rw [Rat.intCast_mul] at a1 a2
  rw [dq_scale (s * s / 2 ^ p), dq_scale s]
  generalize dq 1 (-(p : Int)) = u at *
  generalize (((2 : Int) ^ p : Int) : Rat) = P at *
  generalize ((s * s / 2 ^ p : Int) : Rat) = y at *
  generalize (s : Rat) = t at *
  constructor
  · have := Rat.mul_le_mul_of_nonneg_right a1 (Rat.le_of_lt (Rat.mul_pos hu hu))
    rw [show y * P * (u * u) = y * u * (P * u) by grind, hc] at this
    grind
  · have := Rat.mul_le_mul_of_nonneg_right a2 (Rat.le_of_lt (Rat.mul_pos hu hu))
    rw [show (y * P + P) * (u * u) = (y * u + u) * (P * u) by grind, hc] at this
    grind
theorem PwU.step {p n : Nat} {s : Int} {y : Rat} (h : PwU p n s y) : PwU p (2 * n + 1) (s * s / 2 ^ p) (2 * y) := by
  obtain ⟨⟨a, ha, l1, l2⟩, ⟨b, u1, u2⟩, h1⟩ := h
  have hu := dq_pos (-(p : Int))
  obtain ⟨r1, r2⟩ := sq_rat s p
  have hP := pow2_pos p
  have h2 : 2 ^ p ≤ s * s / 2 ^ p := by
    refine (Int.le_ediv_iff_mul_le hP).2 ?_
    exact Int.mul_le_mul h1 h1 (by omega) (by omega)
  have h3 := (dq_le_iff _ _ (-(p : Int))).2 h2
  have h4 := (dq_le_iff _ _ (-(p : Int))).2 h1
  rw [dq_onep] at h3 h4
  have hb := u1.pos
  have hG : 1 ≤ rp (1 + dq 1 (-(p : Int))) n := rp_one_le (Rat.le_of_lt hu) n
  have q1 := rmul_le l2 l2 (show 0 ≤ dq s (-(p : Int)) by grind) (by grind)
  have q2 := rmul_le u2 u2 (Rat.le_of_lt hb) (by grind)
  refine ⟨⟨a * a, Rat.mul_pos ha ha, l1.dbl (Rat.le_of_lt ha), ?_⟩, ⟨b * b, u1.dbl, ?_⟩, h2⟩
  · rw [rp_odd]
    generalize rp (1 + dq 1 (-(p : Int))) n = G at *
    generalize dq (s * s / 2 ^ p) (-(p : Int)) = s2 at *
    generalize dq s (-(p : Int)) = s1 at *
    generalize dq 1 (-(p : Int)) = u at *
    have q3 : 0 ≤ a * a * (G * G) := Rat.mul_nonneg (rsq_nn a) (rsq_nn G)
    have q4 := Rat.mul_nonneg q3 (Rat.le_of_lt hu)
    grind
  · rw [rp_odd]
    generalize rp (1 + dq 1 (-(p : Int))) n = G at *
    generalize dq (s * s / 2 ^ p) (-(p : Int)) = s2 at *
    generalize dq s (-(p : Int)) = s1 at *
    generalize dq 1 (-(p : Int)) = u at *
    have q3 := rsq_nn G
    have q4 := Rat.mul_le_mul_of_nonneg_right r2 q3
    have q5 := Rat.mul_le_mul_of_nonneg_right h3 (Rat.le_of_lt hu)
    have q6 := Rat.mul_le_mul_of_nonneg_right q5 q3
    grind
theorem PwD.step {p n : Nat} {s : Int} {y : Rat} (h : PwD p n s y) : PwD p (2 * n + 1) (s * s / 2 ^ p) (2 * y) := by
  obtain ⟨l, u9, h0, h1⟩ := h
  have hu := dq_pos (-(p : Int))
  obtain ⟨r1, r2⟩ := sq_rat s p
  have hP := pow2_pos p
  have h2 : 0 ≤ s * s / 2 ^ p := Int.ediv_nonneg (Int.mul_nonneg h0 h0) (by omega)
  have h3 : s * s / 2 ^ p ≤ 2 ^ p := by
    refine Int.ediv_le_of_le_mul hP ?_
    exact Int.mul_le_mul h1 h1 h0 (by omega)
  have h4 := (dq_le_iff _ _ (-(p : Int))).2 h1
  have h5 := (dq_le_iff _ _ (-(p : Int))).2 h0
  rw [dq_onep] at h4
  rw [dq_zero] at h5
  have hG : 1 ≤ rp (1 + dq 1 (-(p : Int))) n := rp_one_le (Rat.le_of_lt hu) n
  refine ⟨?_, u9.dbl.up ?_, h2, h3⟩
  · rw [rp_odd]
    generalize rp (1 + dq 1 (-(p : Int))) n = G at *
    generalize dq (s * s / 2 ^ p) (-(p : Int)) = s2 at *
    generalize dq s (-(p : Int)) = s1 at *
    generalize dq 1 (-(p : Int)) = u at *
    have q3 := Rat.mul_nonneg (rsq_nn G) (Rat.le_of_lt hu)
    by_cases hl : 0 ≤ s1 - (G - 1)
    · refine (l.dbl hl).down ?_
      have q4 := Rat.mul_nonneg (show 0 ≤ 1 - s1 by grind) (show 0 ≤ G - 1 by grind)
      have q5 := rsq_nn (G - 1)
      grind
    · refine (LoE.zero _).down ?_
      have q4 := Rat.mul_le_mul_of_nonneg_right h4 h5
      have q5 := rsq_nn (G - 1)
      grind
  · rw [rp_odd]
    generalize rp (1 + dq 1 (-(p : Int))) n = G at *
    generalize dq (s * s / 2 ^ p) (-(p : Int)) = s2 at *
    generalize dq s (-(p : Int)) = s1 at *
    generalize dq 1 (-(p : Int)) = u at *
    have q4 := Rat.mul_nonneg (show 0 ≤ 1 - s1 by grind) (show 0 ≤ G - 1 by grind)
    have q6 := Rat.mul_nonneg (show 0 ≤ G * G - 1 by
      have := rmul_le hG hG (by grind) (by grind)
      grind) (Rat.le_of_lt hu)
    grind
/-- Either, with how often it was squared. -/
def PwB (p n : Nat) (s : Int) (y : Rat) : Prop := (PwU p n s y ∧ 0 ≤ y) ∨ (PwD p n s y ∧ y ≤ 0)
theorem PwB.step {p n : Nat} {s : Int} {y : Rat} (h : PwB p n s y) : PwB p (2 * n + 1) (s * s / 2 ^ p) (2 * y) := by
  rcases h with ⟨h, hy⟩ | ⟨h, hy⟩
  · exact Or.inl ⟨h.step, by grind⟩
  · exact Or.inr ⟨h.step, by grind⟩
/-- How large it is. -/
theorem PwB.top {p n : Nat} {s : Int} {y B : Rat} (h : PwB p n s y) (hB : UpE y B) (hB1 : 1 ≤ B) (hn : (n : Rat) * dq 1 (-(p : Int)) ≤ 1 / 2) : 0 ≤ s ∧ dq s (-(p : Int)) ≤ 2 * B := by
  have hu := dq_pos (-(p : Int))
  have hG := rp_small (Rat.le_of_lt hu) n hn
  rcases h with ⟨h, hy⟩ | ⟨h, hy⟩
  · obtain ⟨a, ha, l1, l2⟩ := h.lo
    have h1 := l1.le hB
    have hP := pow2_pos p
    have h2 := h.one
    have q1 := Rat.mul_le_mul_of_nonneg_left (show rp (1 + dq 1 (-(p : Int))) n ≤ 2 by grind) (Rat.le_of_lt ha)
    exact ⟨by omega, by grind⟩
  · have h4 := (dq_le_iff _ _ (-(p : Int))).2 h.one
    rw [dq_onep] at h4
    exact ⟨h.nn, by grind⟩
/-- How far it is off. -/
theorem PwB.last {p n : Nat} {s : Int} {y B M : Rat} (h : PwB p n s y) (hB : UpE y B) (hB1 : 1 ≤ B) (hM : 4 * ((n : Rat) * dq 1 (-(p : Int)) * B) ≤ M) (hM2 : M ≤ 1) : LoE (dq s (-(p : Int)) - M) y ∧ UpE y (dq s (-(p : Int)) + M) := by
  have hu := dq_pos (-(p : Int))
  have ht := Rat.mul_nonneg (nat_nn n) (Rat.le_of_lt hu)
  have htB := Rat.mul_le_mul_of_nonneg_left hB1 ht
  have hG := rp_small (Rat.le_of_lt hu) n (by grind)
  have hG1 := rp_one_le (Rat.le_of_lt hu) n
  rcases h with ⟨h, hy⟩ | ⟨h, hy⟩
  · obtain ⟨a, ha, l1, l2⟩ := h.lo
    obtain ⟨b, u1, u2⟩ := h.up
    have h1 := l1.le hB
    generalize rp (1 + dq 1 (-(p : Int))) n = G at *
    generalize (n : Rat) * dq 1 (-(p : Int)) = t at *
    generalize dq s (-(p : Int)) = s1 at *
    have q1 := Rat.mul_le_mul_of_nonneg_left hG (Rat.le_of_lt ha)
    have q2 := Rat.mul_le_mul_of_nonneg_left h1 ht
    have q3 := Rat.mul_le_mul_of_nonneg_left (show G ≤ 2 by grind) (Rat.le_of_lt ha)
    have hs : s1 ≤ 2 * B := by grind
    have hs0 : 0 ≤ s1 := by
      refine Rat.not_lt.1 fun hlt => ?_
      have := u1.pos
      have := Rat.mul_nonneg (show 0 ≤ -s1 by grind) (show 0 ≤ G by grind)
      grind
    have q4 := Rat.mul_le_mul_of_nonneg_left hG hs0
    have q5 := Rat.mul_le_mul_of_nonneg_left hs ht
    exact ⟨l1.down (by grind), u1.up (by grind)⟩
  · exact ⟨h.lo.down (by grind), h.up.up (by grind)⟩
/-- From the rounded argument to the argument. -/
theorem arg_near {a b x y u : Rat} (hu : 0 < u) (hu2 : u ≤ 1 / 2) (h1 : x ≤ y + u) (h2 : y ≤ x + u) (la : LoE a x) (ub : UpE x b) (ha2 : a ≤ 2) (hb : b ≤ 2) : LoE (a - 2 * u) y ∧ UpE y (b + 4 * u) := by
  have g1 := exp_line (-u)
  have g2 := g1.neg (by grind)
  rw [Rat.neg_neg] at g2
  have g3 : (1 + -u)⁻¹ ≤ 1 + 2 * u := by
    refine le_of_mul (c := 1 + -u) (by grind) ?_
    rw [Rat.inv_mul_cancel _ (by grind)]
    have := Rat.mul_nonneg (Rat.le_of_lt hu) (show 0 ≤ 1 - 2 * u by grind)
    grind
  have hbp := ub.pos
  refine ⟨?_, ((ub.add (g2.up g3)).mono h2).up ?_⟩
  · by_cases h0 : 0 < a
    · have w := la.add g1 h0 (by grind)
      refine (w.mono (show x + -u ≤ y by grind) (Rat.mul_nonneg (Rat.le_of_lt h0) (by grind))).down ?_
      have := Rat.mul_le_mul_of_nonneg_right ha2 (Rat.le_of_lt hu)
      grind
    · exact (LoE.zero _).down (by grind)
  · have := Rat.mul_le_mul_of_nonneg_right hb (Rat.le_of_lt hu)
    grind
/-- The sum of the series is where the squares begin. -/
theorem PwB.first {p E : Nat} {S : Int} {y : Rat} (h1 : LoE (dq S (-(p : Int)) - (E : Rat) * dq 1 (-(p : Int))) y) (h2 : UpE y (dq S (-(p : Int)) + (E : Rat) * dq 1 (-(p : Int)))) (hE : (E : Rat) * dq 1 (-(p : Int)) ≤ 1 / 4)
    (hp : 0 ≤ y → 2 ^ p ≤ S) (hn : y ≤ 0 → 0 ≤ S ∧ S ≤ 2 ^ p) : PwB p (2 * E) S y := by
  have hu := dq_pos (-(p : Int))
  have hb := rp_bern (Rat.le_of_lt hu) (2 * E)
  have e : ((2 * E : Nat) : Rat) * dq 1 (-(p : Int)) = 2 * ((E : Rat) * dq 1 (-(p : Int))) := by
    rw [Rat.natCast_mul, show ((2 : Nat) : Rat) = 2 from rfl]
    grind
  rw [e] at hb
  have ht := Rat.mul_nonneg (nat_nn E) (Rat.le_of_lt hu)
  by_cases hy : 0 ≤ y
  · have hS := hp hy
    have h4 := (dq_le_iff _ _ (-(p : Int))).2 hS
    rw [dq_onep] at h4
    refine Or.inl ⟨⟨⟨_, ?_, h1, ?_⟩, ⟨_, h2, ?_⟩, hS⟩, hy⟩
    · grind
    · generalize rp (1 + dq 1 (-(p : Int))) (2 * E) = G at *
      generalize (E : Rat) * dq 1 (-(p : Int)) = t at *
      generalize dq S (-(p : Int)) = s1 at *
      have q1 := Rat.mul_le_mul_of_nonneg_left hb (show 0 ≤ s1 - t by grind)
      have q2 := Rat.mul_nonneg ht (show 0 ≤ 2 * (s1 - t) - 1 by grind)
      grind
    · generalize rp (1 + dq 1 (-(p : Int))) (2 * E) = G at *
      generalize (E : Rat) * dq 1 (-(p : Int)) = t at *
      generalize dq S (-(p : Int)) = s1 at *
      have q1 := Rat.mul_le_mul_of_nonneg_left hb (show 0 ≤ s1 by grind)
      have q2 := Rat.mul_le_mul_of_nonneg_right h4 ht
      grind
  · obtain ⟨n1, n2⟩ := hn (by grind)
    exact Or.inr ⟨⟨h1.down (by grind), h2.up (by grind), n1, n2⟩, by grind⟩

/-- The quotients of terms: of the exponential, and of the (area) tangent. -/
def exP (n : Int) (k : Nat) : Int × Int := if k = 0 then (1, 1) else (1, (k : Int) * n)
def tnP (n sg : Int) (k : Nat) : Int × Int := if k = 0 then (n, n * n + sg) else (sg * 2 * (k : Int), (2 * (k : Int) + 1) * (n * n + sg))
/-- The next term. -/
def stP (p : Nat → Int × Int) (k : Nat) (t : Int) : Int := t * (p k).1 / (p k).2
/-- The sum of the terms; none where they do not end in time. -/
def smP (p : Nat → Int × Int) : Nat → Nat → Int → Int → Option Int
  | 0, _, _, _ => none
  | f + 1, k, t, s => if stP p k t = 0 then some s else smP p f (k + 1) (stP p k t) (s + stP p k t)
/-- What is asked of the quotients. -/
def GdP (p : Nat → Int × Int) : Prop := ∀ k, k ≤ 1000 → ((p k).1.natAbs : Int) ≤ (p k).2 ∧ 0 < (p k).2 ∧ (p k).2 ≤ 4611686018427387904
theorem st_abs {p : Nat → Int × Int} {k : Nat} {t : Int} {j : Nat} (h : GdP p) (hk : k ≤ 1000) (ht : AbP t j) : AbP (stP p k t) j := by
  obtain ⟨h1, h2, h3⟩ := h k hk
  unfold AbP stP at *
  generalize (p k).1 = a at *
  generalize (p k).2 = b at *
  have x0 : ((t * a).natAbs : Int) ≤ (t.natAbs : Int) * b := by
    rw [Int.natAbs_mul, Int.natCast_mul]
    exact Int.mul_le_mul_of_nonneg_left h1 (Int.natCast_nonneg _)
  have x1 : t * a / b ≤ (t.natAbs : Int) := Int.ediv_le_of_le_mul h2 (by omega)
  have x2 : -(t.natAbs : Int) ≤ t * a / b := by
    rw [Int.le_ediv_iff_mul_le h2, Int.neg_mul]
    omega
  omega
/-- What is known ahead of each round. -/
def SpI (p : Nat → Int × Int) (v f k : Nat) (t s S : Int) : Prop := AbP t v ∧ AbP s (v + k) ∧ f + k = 600 ∧ smP p f k t s = some S
theorem SpI.step {p : Nat → Int × Int} {v f k : Nat} {t s S : Int} (hg : GdP p) (h : SpI p v f k t s S) : ∃ g, f = g + 1 ∧ k ≤ 600 ∧ AbP (stP p k t) v ∧
    (stP p k t = 0 → S = s) ∧ (stP p k t ≠ 0 → SpI p v g (k + 1) (stP p k t) (s + stP p k t) S) := by
  obtain ⟨h1, h2, h3, h4⟩ := h
  match f with
  | 0 => cases h4
  | g + 1 =>
    have h5 := st_abs hg (show k ≤ 1000 by omega) h1
    refine ⟨g, rfl, by omega, h5, fun h0 => ?_, fun h0 => ⟨h5, h2.add (h5.up (by omega)), by omega, ?_⟩⟩
    · rw [smP, if_pos h0] at h4
      exact (Option.some.inj h4).symm
    · rw [smP, if_neg h0] at h4
      exact h4
theorem SpI.zl {p : Nat → Int × Int} {v f k : Nat} {t s S : Int} (h : SpI p v f k t s S) (hv : v ≤ 5000) : zl t ≤ 200 ∧ zl s ≤ 200 ∧ k ≤ 600 := by
  obtain ⟨h1, h2, h3, h4⟩ := h
  have x1 := h1.zl
  have x2 := h2.zl
  omega
theorem smP_abs {p : Nat → Int × Int} {v : Nat} (hg : GdP p) : ∀ (f k : Nat) (t s S : Int), SpI p v f k t s S → AbP S (v + 600)
  | f, k, t, s, S, h => by
    obtain ⟨g, rfl, hk, _, h1, h2⟩ := h.step hg
    by_cases h0 : stP p k t = 0
    · rw [h1 h0]
      exact h.2.1.up (by omega)
    · exact smP_abs hg g _ _ _ _ (h2 h0)
theorem sp_first {p : Nat → Int × Int} {v : Nat} {S : Int} (h : smP p 600 0 (2 ^ v) 0 = some S) : SpI p v 600 0 (2 ^ v) 0 S := ⟨(tm_one v).abs.1, AbP.zero _, rfl, h⟩
theorem exP_good : GdP (exP 1) := fun k hk => by
  unfold exP
  split <;> simp only <;> omega
theorem tnP_good {n sg : Int} (h : (n, sg) = (5, 1) ∨ (n, sg) = (239, 1) ∨ (n, sg) = (26, -1) ∨ (n, sg) = (4801, -1) ∨ (n, sg) = (8749, -1)) : GdP (tnP n sg) := fun k hk => by
  unfold tnP
  rcases h with h | h | h | h | h <;> obtain ⟨rfl, rfl⟩ := Prod.mk.inj h <;> split <;> simp only <;> omega
/-- The ends at the precision k of a sum in units of 2^-(k + 32). -/
def loC (T : Int) : Int := (T - 262144) / 4294967296
def hiC (T : Int) : Int := cdv (T + 262144) 4294967296
/-- The floor of the product of an integer and a fraction. -/
theorem cut_st (p : Nat → Int × Int) (k : Nat) (t : Int) (h : 0 < (p k).2) : cutQ (Rat.divInt (t * (Rat.divInt (p k).1 (p k).2).num) (((1 : Nat) : Int) * ((Rat.divInt (p k).1 (p k).2).den : Int))) 0 = stP p k t := by
  obtain ⟨d, hd⟩ : ∃ d : Nat, (p k).2 = (d : Int) := ⟨(p k).2.toNat, by omega⟩
  have e : Rat.divInt (t * (Rat.divInt (p k).1 (p k).2).num) (((1 : Nat) : Int) * ((Rat.divInt (p k).1 (p k).2).den : Int)) = Rat.divInt (t * (p k).1) (d : Int) := by
    rw [← Rat.divInt_mul_divInt, Rat.num_divInt_den, hd, ← Int.mul_one (d : Int), Int.mul_comm (d : Int), ← Rat.divInt_mul_divInt, Int.one_mul]
    rfl
  unfold stP
  rw [e, cut_eq _ d (by omega) 0, hd]
  simp

theorem mk_fits9 {m e : Int} (h : zl m ≤ 700) (h1 : -40000 ≤ e) (h2 : e ≤ 40000) : mkR m e = 0 := by
  unfold mkR
  rw [if_neg (by omega)]
  by_cases h0 : m = 0
  · rw [if_pos h0]
  · rw [if_neg h0]
    have ht := tz_le8 m.natAbs (by omega)
    have e1 : zl m = len m.natAbs := rfl
    have hb : blen (oddM m).natAbs ≤ 65536 := by
      have := blen_le_len (oddM m).natAbs
      have h3 := zl_odd m
      have e2 : zl (oddM m) = len (oddM m).natAbs := rfl
      omega
    have ho : bitB (oddM m).natAbs 0 = true := by
      obtain ⟨k, hk⟩ := tz_form (x := m.natAbs) (by omega)
      have hd : m.natAbs / 2 ^ tz m.natAbs = 2 * k + 1 := by
        have := Nat.mul_div_cancel_left (2 * k + 1) (Nat.pow_pos (n := tz m.natAbs) (show 0 < 2 by omega))
        rwa [← hk] at this
      unfold bitB
      rw [oddM_abs, hd, Nat.pow_zero, Nat.div_one]
      exact decide_eq_true (by omega)
    have hf : fits8 (oddM m) (oddE m e) = true := by
      unfold fits8 oddE
      rw [decide_eq_true hb, decide_eq_true (by omega), decide_eq_true (by omega), ho]
      rfl
    rw [hf]
    rfl
theorem mk_uniq {a e b f : Int} (h1 : mkR a e = 0) (h2 : mkR b f = 0) (h : dq a e = dq b f) : mkM a e = mkM b f ∧ mkE a e = mkE b f :=
  dv_uniq (mk_ok h1) (mk_ok h2) (by rw [dq_mk h1, dq_mk h2, h])
theorem mkE_at {x y : Int} {k : Nat} (h : mkR x y = 0) (hz : zl x ≤ k) : mkE x y = 0 ∨ (y ≤ mkE x y ∧ mkE x y ≤ y + 32 * (k : Int)) := by
  unfold mkE
  by_cases h0 : x = 0
  · rw [if_pos h0]; exact Or.inl rfl
  · rw [if_neg h0, if_pos h]
    refine Or.inr ?_
    have ht := tz_le8 x.natAbs (by omega)
    have e1 : zl x = len x.natAbs := rfl
    unfold oddE
    omega
theorem nf {t : Int} {v : Nat} (h : AbP t v) (hv : v ≤ 6000) : mkR t 0 = 0 ∧ zl (mkM t 0) ≤ 200 ∧ 0 ≤ mkE t 0 ∧ mkE t 0 ≤ 6400 ∧ mkM t 0 * 2 ^ (mkE t 0).toNat = t ∧ dq (mkM t 0) (mkE t 0) = dq t 0 := by
  have hz := h.zl
  have hr : mkR t 0 = 0 := mk_fits2 (by omega) (by omega) (by omega)
  have z1 := zl_mk t 0
  have z2 := mkE_at hr (show zl t ≤ 190 by omega)
  refine ⟨hr, by omega, by omega, by omega, ?_, dq_mk hr⟩
  unfold mkM mkE
  rw [if_pos hr, if_pos hr]
  by_cases h0 : t = 0
  · subst h0; rw [oddM_zero]; simp
  · rw [if_neg h0, show (oddE t 0).toNat = tz t.natAbs from by unfold oddE; omega, odd_form]
theorem nf_zero {t : Int} {v : Nat} (h : AbP t v) (hv : v ≤ 6000) : mkM t 0 = 0 ↔ t = 0 := by
  obtain ⟨_, _, _, _, h5, _⟩ := nf h hv
  constructor
  · intro e
    rw [e, Int.zero_mul] at h5
    exact h5.symm
  · rintro rfl
    have hr := (nf (AbP.zero 0) (by omega)).1
    unfold mkM
    rw [if_pos hr]
    exact oddM_zero
theorem nf00 : mkM 0 0 = 0 ∧ mkE 0 0 = 0 := by
  refine ⟨(nf_zero (AbP.zero 0) (by omega)).2 rfl, ?_⟩
  unfold mkE
  rw [if_pos rfl]
/-- Such a dyadic's fraction. -/
theorem nf_rat {t : Int} {v : Nat} (h : AbP t v) (hv : v ≤ 6000) : mkM t 0 * 2 ^ (mkE t 0).toNat = t ∧ 2 ^ (-(mkE t 0)).toNat = 1 := by
  obtain ⟨_, _, h3, _, h5, _⟩ := nf h hv
  refine ⟨h5, ?_⟩
  rw [show (-(mkE t 0)).toNat = 0 by omega, Nat.pow_zero]
theorem nf_sign {t : Int} {v : Nat} (h : AbP t v) (hv : v ≤ 6000) : (cmpI (mkM t 0) 0 == 0) = decide (t = 0) := by
  have := nf_zero h hv
  unfold cmpI
  (repeat' split) <;> simp <;> omega
theorem nf_add {s t : Int} {v : Nat} (h1 : AbP s v) (h2 : AbP t v) (hv : v ≤ 5000) :
    mkR (addS (mkM s 0) (mkE s 0) (mkM t 0) (mkE t 0)) (min (mkE s 0) (mkE t 0)) = 0 ∧ mkM (addS (mkM s 0) (mkE s 0) (mkM t 0) (mkE t 0)) (min (mkE s 0) (mkE t 0)) = mkM (s + t) 0 ∧ mkE (addS (mkM s 0) (mkE s 0) (mkM t 0) (mkE t 0)) (min (mkE s 0) (mkE t 0)) = mkE (s + t) 0 := by
  obtain ⟨a1, a2, a3, a4, _, a6⟩ := nf h1 (by omega)
  obtain ⟨b1, b2, b3, b4, _, b6⟩ := nf h2 (by omega)
  have hz := zl_addS (mkM s 0) (mkE s 0) (mkM t 0) (mkE t 0) 6400 (by omega) (by omega)
  have hr : mkR (addS (mkM s 0) (mkE s 0) (mkM t 0) (mkE t 0)) (min (mkE s 0) (mkE t 0)) = 0 := mk_fits9 (by omega) (by omega) (by omega)
  obtain ⟨c1, _⟩ := nf (h1.add h2) (by omega)
  exact ⟨hr, mk_uniq hr c1 (by rw [dq_add, a6, b6, dq_int, dq_int, dq_int, Rat.intCast_add])⟩
theorem nf_sub {s t : Int} {v : Nat} (h1 : AbP s v) (h2 : AbP t v) (hv : v ≤ 5000) :
    mkR (addS (mkM s 0) (mkE s 0) (-(mkM t 0)) (mkE t 0)) (min (mkE s 0) (mkE t 0)) = 0 ∧ mkM (addS (mkM s 0) (mkE s 0) (-(mkM t 0)) (mkE t 0)) (min (mkE s 0) (mkE t 0)) = mkM (s - t) 0 ∧ mkE (addS (mkM s 0) (mkE s 0) (-(mkM t 0)) (mkE t 0)) (min (mkE s 0) (mkE t 0)) = mkE (s - t) 0 := by
  obtain ⟨a1, a2, a3, a4, _, a6⟩ := nf h1 (by omega)
  obtain ⟨b1, b2, b3, b4, _, b6⟩ := nf h2 (by omega)
  have hn := zl_neg (mkM t 0)
  have hz := zl_addS (mkM s 0) (mkE s 0) (-(mkM t 0)) (mkE t 0) 6400 (by omega) (by omega)
  have hr : mkR (addS (mkM s 0) (mkE s 0) (-(mkM t 0)) (mkE t 0)) (min (mkE s 0) (mkE t 0)) = 0 := mk_fits9 (by omega) (by omega) (by omega)
  obtain ⟨c1, _⟩ := nf (h1.add h2.neg) (by omega)
  rw [← Int.sub_eq_add_neg] at c1
  exact ⟨hr, mk_uniq hr c1 (by rw [dq_add, dq_neg, a6, b6, dq_int, dq_int, dq_int, Rat.intCast_sub, Rat.sub_eq_add_neg])⟩
theorem nf_mul {s t : Int} {v u : Nat} (h1 : AbP s v) (h2 : AbP t u) (hv : v + u ≤ 5000) :
    mkR (mkM s 0 * mkM t 0) (mkE s 0 + mkE t 0) = 0 ∧ mkM (mkM s 0 * mkM t 0) (mkE s 0 + mkE t 0) = mkM (s * t) 0 ∧ mkE (mkM s 0 * mkM t 0) (mkE s 0 + mkE t 0) = mkE (s * t) 0 := by
  obtain ⟨a1, a2, a3, a4, _, a6⟩ := nf h1 (by omega)
  obtain ⟨b1, b2, b3, b4, _, b6⟩ := nf h2 (by omega)
  have e1 := mkE_at a1 (k := 200) (by have := h1.zl; omega)
  have e2 := mkE_at b1 (k := 200) (by have := h2.zl; omega)
  obtain ⟨c1, _⟩ := nf (h1.mul h2) (by omega)
  have hz : zl (mkM s 0 * mkM t 0) ≤ 400 := by
    have := zl_mul (mkM s 0) (mkM t 0)
    omega
  have hr : mkR (mkM s 0 * mkM t 0) (mkE s 0 + mkE t 0) = 0 := mk_fits9 (by omega) (by omega) (by omega)
  exact ⟨hr, mk_uniq hr c1 (by rw [dq_mul, a6, b6, dq_int, dq_int, dq_int, Rat.intCast_mul])⟩
theorem dq_shift (s k : Int) : dq s k = dq s 0 * dq 1 k := by
  have := dq_mul s 0 1 k
  rw [Int.mul_one, Int.zero_add] at this
  exact this
theorem nf_dq {t k : Int} {v : Nat} (h : AbP t v) (hv : v ≤ 6000) : dq (mkM t 0) (mkE t 0 + k) = dq t k := by
  obtain ⟨_, _, _, _, _, h6⟩ := nf h hv
  have := dq_mul (mkM t 0) (mkE t 0) 1 k
  rw [Int.mul_one, h6, ← dq_shift] at this
  exact this
/-- Shifts up: of one. -/
theorem nf_up {k : Nat} (hk : k ≤ 4000) : mkR (mkM 1 0) (mkE 1 0 + (k : Int)) = 0 ∧ mkM (mkM 1 0) (mkE 1 0 + (k : Int)) = mkM (2 ^ k) 0 ∧ mkE (mkM 1 0) (mkE 1 0 + (k : Int)) = mkE (2 ^ k) 0 := by
  have h1 : AbP 1 0 := by unfold AbP; decide
  obtain ⟨a1, a2, a3, a4, _⟩ := nf h1 (by omega)
  obtain ⟨c1, _⟩ := nf ((tm_one k).abs.1) (by omega)
  have hr : mkR (mkM 1 0) (mkE 1 0 + (k : Int)) = 0 := mk_fits9 (by omega) (by omega) (by omega)
  refine ⟨hr, mk_uniq hr c1 ?_⟩
  rw [nf_dq h1 (by omega)]
  refine dq_eq (F := 0) ?_ (by omega) (by omega)
  rw [show ((k : Int) - 0).toNat = k by omega, show ((0 : Int) - 0).toNat = 0 by omega]
  simp
/-- Shifts down. -/
theorem nf_down {s : Int} {v k : Nat} (h : AbP s v) (hv : v ≤ 5000) (hk : k ≤ 5000) : mkR (mkM s 0) (mkE s 0 + -(k : Int)) = 0 ∧ Dv (mkM (mkM s 0) (mkE s 0 + -(k : Int))) (mkE (mkM s 0) (mkE s 0 + -(k : Int))) ∧ dq (mkM (mkM s 0) (mkE s 0 + -(k : Int))) (mkE (mkM s 0) (mkE s 0 + -(k : Int))) = dq s (-(k : Int)) ∧
    zl (mkM (mkM s 0) (mkE s 0 + -(k : Int))) ≤ 200 ∧ -20000 ≤ mkE (mkM s 0) (mkE s 0 + -(k : Int)) ∧ mkE (mkM s 0) (mkE s 0 + -(k : Int)) ≤ 20000 := by
  obtain ⟨a1, a2, a3, a4, _, a6⟩ := nf h (by omega)
  have e1 := mkE_at a1 (k := 160) (by have := h.zl; omega)
  have hr : mkR (mkM s 0) (mkE s 0 + -(k : Int)) = 0 := mk_fits9 (by omega) (by omega) (by omega)
  have z1 := zl_mk (mkM s 0) (mkE s 0 + -(k : Int))
  have e2 := mkE_at hr a2
  exact ⟨hr, mk_ok hr, by rw [dq_mk hr, nf_dq h (by omega)], by omega, by omega, by omega⟩

theorem np {T : Int} {p j : Nat} (h : AbP T j) (hj : j ≤ 3000) (hp : p ≤ 3000) :
    mkR T (-(p : Int)) = 0 ∧ zl (mkM T (-(p : Int))) ≤ j / 32 + 1 ∧ (-(p : Int) ≤ mkE T (-(p : Int)) ∧ mkE T (-(p : Int)) ≤ (j : Int) + 32) ∧ Dv (mkM T (-(p : Int))) (mkE T (-(p : Int))) ∧ dq (mkM T (-(p : Int))) (mkE T (-(p : Int))) = dq T (-(p : Int)) := by
  have hz := h.zl
  have hr : mkR T (-(p : Int)) = 0 := mk_fits2 (by omega) (by omega) (by omega)
  have z1 := zl_mk T (-(p : Int))
  have z2 := mkE_at hr (k := j / 32 + 1) hz
  exact ⟨hr, by omega, by omega, mk_ok hr, dq_mk hr⟩
theorem np_zero {T : Int} {p j : Nat} (h : AbP T j) (hj : j ≤ 3000) (hp : p ≤ 3000) : mkM T (-(p : Int)) = 0 ↔ T = 0 := by
  obtain ⟨hr, _, _, _, h5⟩ := np h hj hp
  constructor
  · intro e
    rw [e, dq_zero] at h5
    refine (dq_inj (e := -(p : Int)) ?_).symm
    rw [dq_zero, h5]
  · rintro rfl
    unfold mkM
    rw [if_pos hr]
    exact oddM_zero
theorem np_sign {T : Int} {p j : Nat} (h : AbP T j) (hj : j ≤ 3000) (hp : p ≤ 3000) : (cmpI (mkM T (-(p : Int))) 0 != 0) = decide (T ≠ 0) := by
  have := np_zero h hj hp
  unfold cmpI
  (repeat' split) <;> simp <;> omega
/-- A shift by nothing. -/
theorem np_same {M E : Int} (hv : Dv M E) (hz : zl M ≤ 1900) (he : -60000 ≤ E ∧ E ≤ 4000) : mkR M (E + 0) = 0 ∧ mkM M (E + 0) = M ∧ mkE M (E + 0) = E := by
  have hr : mkR M (E + 0) = 0 := mk_fits2 hz (by omega) (by omega)
  exact ⟨hr, dv_uniq (mk_ok hr) hv (by rw [dq_mk hr, Int.add_zero])⟩
theorem np_add {s t : Int} {p j : Nat} (h1 : AbP s j) (h2 : AbP t j) (hj : j ≤ 2900) (hp : p ≤ 2900) :
    mkR (addS (mkM s (-(p : Int))) (mkE s (-(p : Int))) (mkM t (-(p : Int))) (mkE t (-(p : Int)))) (min (mkE s (-(p : Int))) (mkE t (-(p : Int)))) = 0 ∧
    mkM (addS (mkM s (-(p : Int))) (mkE s (-(p : Int))) (mkM t (-(p : Int))) (mkE t (-(p : Int)))) (min (mkE s (-(p : Int))) (mkE t (-(p : Int)))) = mkM (s + t) (-(p : Int)) ∧
    mkE (addS (mkM s (-(p : Int))) (mkE s (-(p : Int))) (mkM t (-(p : Int))) (mkE t (-(p : Int)))) (min (mkE s (-(p : Int))) (mkE t (-(p : Int)))) = mkE (s + t) (-(p : Int)) := by
  obtain ⟨a1, a2, a3, a4, a5⟩ := np h1 (by omega) (show p ≤ 3000 by omega)
  obtain ⟨b1, b2, b3, b4, b5⟩ := np h2 (by omega) (show p ≤ 3000 by omega)
  have hz := zl_addS (mkM s (-(p : Int))) (mkE s (-(p : Int))) (mkM t (-(p : Int))) (mkE t (-(p : Int))) 3100 (by omega) (by omega)
  obtain ⟨c1, c2, c3, c4, c5⟩ := np (h1.add h2) (by omega) (show p ≤ 3000 by omega)
  have hr : mkR (addS (mkM s (-(p : Int))) (mkE s (-(p : Int))) (mkM t (-(p : Int))) (mkE t (-(p : Int)))) (min (mkE s (-(p : Int))) (mkE t (-(p : Int)))) = 0 := mk_fits9 (by omega) (by omega) (by omega)
  exact ⟨hr, mk_uniq hr c1 (by rw [dq_add, a5, b5, dq_scale s, dq_scale t, dq_scale (s + t), Rat.intCast_add, Rat.add_mul])⟩
/-- A product, and its floor on the grid. -/
theorem np_mul {s t : Int} {p j k : Nat} (h1 : AbP s j) (h2 : AbP t k) (hj : j ≤ 1400) (hk : k ≤ 1400) (hp : p ≤ 1400) (M E : Int)
    (hM : mkM (mkM s (-(p : Int)) * mkM t (-(p : Int))) (mkE s (-(p : Int)) + mkE t (-(p : Int))) = M) (hE : mkE (mkM s (-(p : Int)) * mkM t (-(p : Int))) (mkE s (-(p : Int)) + mkE t (-(p : Int))) = E) :
    mkR (mkM s (-(p : Int)) * mkM t (-(p : Int))) (mkE s (-(p : Int)) + mkE t (-(p : Int))) = 0 ∧ zl M ≤ 200 ∧ (-20000 ≤ E ∧ E ≤ 20000) ∧
    gM (cutQ (dq M E) (p : Int)) (p : Int) = mkM (s * t / 2 ^ p) (-(p : Int)) ∧ gE (cutQ (dq M E) (p : Int)) (p : Int) = mkE (s * t / 2 ^ p) (-(p : Int)) ∧ gR (cutQ (dq M E) (p : Int)) (p : Int) = 0 := by
  obtain ⟨a1, a2, a3, a4, a5⟩ := np h1 (by omega) (show p ≤ 3000 by omega)
  obtain ⟨b1, b2, b3, b4, b5⟩ := np h2 (by omega) (show p ≤ 3000 by omega)
  have hz := zl_mul (mkM s (-(p : Int))) (mkM t (-(p : Int)))
  have hr : mkR (mkM s (-(p : Int)) * mkM t (-(p : Int))) (mkE s (-(p : Int)) + mkE t (-(p : Int))) = 0 := mk_fits9 (by omega) (by omega) (by omega)
  have z1 := zl_mk (mkM s (-(p : Int)) * mkM t (-(p : Int))) (mkE s (-(p : Int)) + mkE t (-(p : Int)))
  have z2 := mkE_at hr (k := 180) (by omega)
  have hd := dq_mk hr
  rw [hM] at z1 hd
  rw [hE] at z2 hd
  rw [dq_mul, a5, b5, ← dq_mul] at hd
  have hc : cutQ (dq M E) (p : Int) = s * t / 2 ^ p := by rw [hd]; exact cutD_down p (by omega)
  have hpm : permB (p : Int) = true := by
    unfold permB
    rw [decide_eq_true (show (-2048 : Int) ≤ (p : Int) by omega), decide_eq_true (show (p : Int) ≤ 8192 by omega)]
    rfl
  obtain ⟨g1, g2, g3⟩ := g_yes hpm (s * t / 2 ^ p)
  have hx : AbP (s * t / 2 ^ p) (j + k) := Nat.le_trans (Int.natAbs_ediv_le_natAbs _ _) (h1.mul h2)
  rw [hc, g1, g2, g3]
  exact ⟨hr, by omega, by omega, rfl, rfl, (np hx (by omega) (by omega)).1⟩
/-- The quotient by a small number, at p. -/
theorem np_div {Y : Int} {p k : Nat} (h : AbP Y p) (hp : p ≤ 700) (hk : 1 ≤ k) (hk2 : k ≤ 1000000) :
    workB (p : Int) = true ∧ cmpI (mkM (k : Int) 0) 0 = 1 ∧ ∀ W : World, RetEn W (min4 (dq (mkM Y (-(p : Int))) (mkE Y (-(p : Int))) / dq (mkM (k : Int) 0) (mkE (k : Int) 0)) (dq (mkM Y (-(p : Int))) (mkE Y (-(p : Int))) / dq (mkM (k : Int) 0) (mkE (k : Int) 0)) (dq (mkM Y (-(p : Int))) (mkE Y (-(p : Int))) / dq (mkM (k : Int) 0) (mkE (k : Int) 0)) (dq (mkM Y (-(p : Int))) (mkE Y (-(p : Int))) / dq (mkM (k : Int) 0) (mkE (k : Int) 0)))
      (max4 (dq (mkM Y (-(p : Int))) (mkE Y (-(p : Int))) / dq (mkM (k : Int) 0) (mkE (k : Int) 0)) (dq (mkM Y (-(p : Int))) (mkE Y (-(p : Int))) / dq (mkM (k : Int) 0) (mkE (k : Int) 0)) (dq (mkM Y (-(p : Int))) (mkE Y (-(p : Int))) / dq (mkM (k : Int) 0) (mkE (k : Int) 0)) (dq (mkM Y (-(p : Int))) (mkE Y (-(p : Int))) / dq (mkM (k : Int) 0) (mkE (k : Int) 0))) (p : Int) =
    RetIE W (mkM (Y / (k : Int)) (-(p : Int))) (mkE (Y / (k : Int)) (-(p : Int))) (upM (dq Y (-(p : Int)) / (k : Rat)) (p : Int)) (upE (dq Y (-(p : Int)) / (k : Rat)) (p : Int)) 0 := by
  obtain ⟨a1, a2, a3, a4, a5⟩ := np h (by omega) (show p ≤ 3000 by omega)
  have hkb : AbP (k : Int) 20 := by
    have e : (2 : Nat) ^ 20 = 1048576 := by decide
    unfold AbP
    rw [e]
    omega
  obtain ⟨b1, b2, b3, b4, b5, b6⟩ := nf hkb (by omega)
  have hwk : workB (p : Int) = true := by
    unfold workB
    rw [decide_eq_true (show (0 : Int) ≤ (p : Int) by omega), decide_eq_true (show (p : Int) ≤ 4096 by omega)]
    rfl
  have hne : cmpI (mkM (k : Int) 0) 0 = 1 := by
    have : 0 < mkM (k : Int) 0 := by
      refine Int.not_le.1 fun hle => ?_
      have h1 := pow2_pos (mkE (k : Int) 0).toNat
      have h2 := Int.mul_le_mul_of_nonneg_right hle (show (0 : Int) ≤ 2 ^ (mkE (k : Int) 0).toNat by omega)
      rw [b5, Int.zero_mul] at h2
      omega
    exact cmpI_gt this
  refine ⟨hwk, hne, fun W => ?_⟩
  rw [a5, b6, dq_int, Rat.intCast_natCast]
  have hkr : (0 : Rat) < (k : Rat) := by exact_mod_cast hk
  obtain ⟨q, hq⟩ : ∃ q, dq Y (-(p : Int)) / (k : Rat) = q := ⟨_, rfl⟩
  have hqk : q * (k : Rat) = dq Y (-(p : Int)) := by rw [← hq]; exact Rat.div_mul_cancel (by grind)
  have cut : ∀ (X : Int) (r : Rat), r * (k : Rat) = dq X (-(p : Int)) → cutQ r (p : Int) = X / (k : Int) := fun X r hr => by
    refine cut_unique ?_ ?_
    · refine le_of_mul hkr ?_
      rw [hr]
      have := fdiv_le (x := X) (n := (k : Int)) (by omega) (-(p : Int))
      rwa [Rat.intCast_natCast] at this
    · rw [← dq_succ]
      refine Rat.not_le.1 fun hlt => ?_
      have h1 := Rat.mul_le_mul_of_nonneg_right hlt (Rat.le_of_lt hkr)
      rw [hr, dq_scale, dq_scale X] at h1
      have h2 := Int.lt_ediv_add_one_mul_self X (show (0 : Int) < (k : Int) by omega)
      have h3 := (dq_le_iff ((X / (k : Int) + 1) * (k : Int)) X (-(p : Int))).1 (by
        rw [dq_scale, dq_scale X, Rat.intCast_mul, Rat.intCast_natCast]
        grind)
      omega
  have c1 := cut Y q hqk
  have c2 := cut (-Y) (-q) (by rw [dq_neg, ← hqk]; grind)
  rw [hq]
  have em : min4 q q q q = q := by rcases min4_or q q q q with h | h | h | h <;> exact h
  have ex : max4 q q q q = q := by rcases max4_or q q q q with h | h | h | h <;> exact h
  rw [em, ex]
  have w1 : AbP (Y / (k : Int)) p := Nat.le_trans (Int.natAbs_ediv_le_natAbs _ _) h
  have w2 : AbP (-(-Y / (k : Int))) p := by
    have : AbP (-Y / (k : Int)) p := Nat.le_trans (Int.natAbs_ediv_le_natAbs _ _) h.neg
    exact this.neg
  have z1 := w1.zl
  have z2 := w2.zl
  rw [RetEn.ok hwk (z := 0) (by rw [c1]; omega) (by rw [c2]; omega) (by omega) Rat.le_refl W]
  unfold enM enE
  rw [c1]

set_option maxHeartbeats 4000000 in
theorem dshift_any (m e k : Int) (vx : Value) (w : World) (hx : IsD w vx m e) (lm : zl m ≤ 20000) (he : -1000000 ≤ e ∧ e ≤ 1000000) (hk : -65536 ≤ k ∧ k ≤ 65536) (hT : Tab w) :
    Calls Tryz.prog 109 #[vx, .int .i64 k] w (RetDE w (mkM m (e + k)) (mkE m (e + k)) (mkR m (e + k))) := by
  obtain ⟨A, c, rfl, hz, hn⟩ := hx.form
  have L0 := (Lq.mk0 w).z hz
  obtain ⟨s, hs⟩ : ∃ s, e + k = s := ⟨_, rfl⟩
  have hw : IntKind.i64.wrap (e + k) = s := by rw [← hs, IntKind.wrap_i64]; omega
  have hw0 := fun W => within_any k 65536 W (by omega) (by omega)
  have hin : (decide (-65536 ≤ k) && decide (k ≤ 65536)) = true := by rw [decide_eq_true hk.1, decide_eq_true hk.2]; rfl
  rw [hin] at hw0
  have HW := Lib.hid hw0
  have HM0 := fun v W h (hW : Below w.heap.size w W) => dmake_any m s v W h (by omega) (hT.mono hW)
  rw [hs]
  generalize mkM m s = M at *
  generalize mkE m s = E at *
  generalize mkR m s = R at *
  have HM := Lib.hid HM0
  clear HM0 hw0 hin hs hx hz hn lm he hk hT
  go_enter Tryz.func109, Tryz.ntmps109
  go_wp2_with fail
  have L := ((L0.varD (w.heap.size) (by simp) (ng m) A (zl m) c e).varD (w.heap.size + 1) (by simp) false none 0 0 0)
  have c00 := L.b0.c30
  have f00 := L.b0.fr 0
  have c01 := L.b0.c31
  have f01 := L.b0.fr 1
  have c02 := L.b0.c32
  have f02 := L.b0.fr 2
  have c10 := L.tl.b0.c30
  have f10 := L.tl.b0.fr 0
  have c11 := L.tl.b0.c31
  have f11 := L.tl.b0.fr 1
  have c12 := L.tl.b0.c32
  have f12 := L.tl.b0.fr 2
  (try go_wp2_with fail)
  refine (HW.out _).mono ?_
  rintro e9 w' ⟨rfl, rfl⟩
  (try go_wp2_with fail)
  refine (HM.out _ _ (L.getZ (v := .agg #[.bool (ng m), .slice A (zl m) c]) (by simp)) L.below).mono ?_
  rintro e w1 ⟨v8, rfl, id, be⟩
  clear c00 f00 c01 f01 c02 f02 c10 f10 c11 f11 c12 f12
  obtain ⟨A9, c9, rfl, _, in9⟩ := id.form
  replace L := (L.step be).n in9
  clear be in9 id
  have c00 := L.b0.c30
  have f00 := L.b0.fr 0
  have c01 := L.b0.c31
  have f01 := L.b0.fr 1
  have c02 := L.b0.c32
  have f02 := L.b0.fr 2
  have c10 := L.tl.b0.c30
  have c11 := L.tl.b0.c31
  have c12 := L.tl.b0.c32
  (try go_wp2_with fail)
  have LP := L.putD (by omega) (by first | (simp; done) | (simp; omega)) (ng M) A9 (zl M) c9 (E)
  have k0 := LP.b0.c30
  have k1 := LP.b0.c31
  have k2 := LP.b0.c32
  unfold put3 at k0 k1 k2
  exact bodyPost_ret (v := .tuple #[.agg #[.bool (ng M), .slice A9 (zl M) c9, .int .i64 (E)], .int .i64 R]) (by simp [results, Tryz.results109, go_sem, k0, k1, k2]) rfl ⟨_, rfl, isD_n LP.hn, LP.below⟩
theorem own_lit0 (w : World) : Own (w.alloc (.cells #[] 129)) w.heap.size (.slice (some ⟨w.heap.size, 0, none⟩) 0 0) [] :=
  ⟨World.ownsRow_lit w #[] 0 (Nat.le_refl _) (by unfold maxLen; omega) rfl, small_nil⟩
/-- A natural, in memory that is not an argument's. -/
def RetNn (w : World) (x : Nat) (en : Ending) (w' : World) : Prop := ∃ v, en = .returned v ∧ IsN w' v x ∧ Below w.heap.size w w'
set_option maxHeartbeats 2000000 in
theorem clone_any (x : Nat) (vx : Value) (w : World) (hx : IsN w vx x) (hl : len x ≤ 1000000) :
    Calls Tryz.prog 209 #[vx] w (RetNn w x) := by
  obtain ⟨A, n, c, rfl, hs⟩ := hx
  have qT : ∀ (w : World) (a : Option Addr) (n c n' c' : Nat), (binOp .eql 22 (.slice a n c) (.slice none n' c')).run Tryz.prog w = .ok (.bool a.isNone) w := fun w a n c n' c' => Lib.run_eql_slice_nil w _ _ a n c n' c' Tryz.underlying22
  have hn : len x = n := by rw [← length_dig]; exact hs.len
  cases A with
  | none =>
    have hx0 : x = 0 := by
      rcases Nat.eq_zero_or_pos n with h0 | h0
      · rw [h0] at hn
        rcases Nat.eq_zero_or_pos x with h1 | h1
        · exact h1
        · have := len_pos h1
          omega
      · obtain ⟨_, _, e, _⟩ := hs.place h0
        cases e
    subst hx0
    clear hs hn hl
    go_enter Tryz.func209, Tryz.ntmps209
    go_wp2_with fail
    go_ret
    exact ⟨_, rfl, IsN.zero _, Below.refl _ _⟩
  | some a =>
    have hsl : n ≤ 1000000 := by omega
    have HS := Lib.hid hs
    clear hs hn hl
    go_enter Tryz.func209, Tryz.ntmps209
    go_wp2_with (at_builtin; refine wp_appS _ rfl _ _ rfl w.heap.size _ [] rfl (own_lit0 w) (some a) n c (dig x) rfl (HS.out.mono ((Below.refl _ w).alloc (Nat.le_refl _) _)) (by simp; omega) (by simp) ?_)
    intro v2 w2 h2 g2
    have b2 := ((Below.refl w.heap.size w).alloc (Nat.le_refl _) (.cells #[] 129)).grown g2 (by simp) (fun k hk => (own_lit0 w).blockGe k hk)
    have h2' : Own w2 w.heap.size v2 (dig x) := h2
    obtain ⟨A2, c2, e2, hs2, _⟩ := h2'.form
    clear h2 g2 h2'
    go_wp2_with fail
    go_ret
    exact ⟨v2, rfl, ⟨A2, _, c2, e2, hs2⟩, b2⟩

set_option maxHeartbeats 4000000 in
theorem icopied_any (m e : Int) (vx : Value) (w : World) (hx : IsD w vx m e) (lm : zl m ≤ 1000) :
    Calls Tryz.prog 183 #[vx] w (RetD8 w m e) := by
  obtain ⟨A, c, rfl, _, hn1⟩ := hx.form
  have L0 := (Lq.mk0 w).n hn1
  have HC := Lib.hid (fun v W h => clone_any m.natAbs v W h (show len m.natAbs ≤ 1000000 from Nat.le_trans lm (by omega)))
  clear hx hn1 lm
  go_enter Tryz.func183, Tryz.ntmps183
  go_wp2_with fail
  have L := ((L0.varD (w.heap.size) (by simp) (ng m) A (zl m) c e).varD (w.heap.size + 1) (by simp) false none 0 0 0)
  have c00 := L.b0.c30
  have f00 := L.b0.fr 0
  have c01 := L.b0.c31
  have f01 := L.b0.fr 1
  have c02 := L.b0.c32
  have f02 := L.b0.fr 2
  have c10 := L.tl.b0.c30
  have f10 := L.tl.b0.fr 0
  have c11 := L.tl.b0.c31
  have f11 := L.tl.b0.fr 1
  have c12 := L.tl.b0.c32
  have f12 := L.tl.b0.fr 2
  (try go_wp2_with fail)
  refine (HC.out _ _ (L.getN (v := .slice A (zl m) c) (x := (m).natAbs) (by simp))).mono ?_
  rintro e w1 ⟨v9, rfl, in9, be⟩
  clear c00 f00 c01 f01 c02 f02 c10 f10 c11 f11 c12 f12
  obtain ⟨A9, c9, e9⟩ := in9.form
  replace e9 : v9 = .slice A9 (zl m) c9 := e9
  subst e9
  replace L := (L.step be).n in9
  clear be in9
  replace L := L.swap
  have c00 := L.b0.c30
  have f00 := L.b0.fr 0
  have c01 := L.b0.c31
  have f01 := L.b0.fr 1
  have c02 := L.b0.c32
  have f02 := L.b0.fr 2
  have c10 := L.tl.b0.c30
  have f10 := L.tl.b0.fr 0
  have c11 := L.tl.b0.c31
  have f11 := L.tl.b0.fr 1
  have c12 := L.tl.b0.c32
  have f12 := L.tl.b0.fr 2
  have LS : Lq _ _ _ _ _ ((w.heap.size, 26, #[.bool (ng m), .slice A9 (zl m) c9, .int .i64 e]) :: _) := L.set (by omega) (by first | (simp; done) | (simp; omega)) 1 (.slice A9 (zl m) c9) (by intro x e; cases e)
  have s00 := LS.b0.c30
  have s01 := LS.b0.c31
  have s02 := LS.b0.c32
  have r00 := LS.tl.b0.fr 0
  have r01 := LS.tl.b0.fr 1
  have r02 := LS.tl.b0.fr 2
  (try go_wp2_with fail)
  clear s00 s01 s02 r00 r01 r02
  replace L := LS.swap
  clear LS
  have LP := L.putD (by omega) (by first | (simp; done) | (simp; omega)) (ng m) A9 (zl m) c9 (e)
  have k0 := LP.b0.c30
  have k1 := LP.b0.c31
  have k2 := LP.b0.c32
  unfold put3 at k0 k1 k2
  exact bodyPost_ret (v := .agg #[.bool (ng m), .slice A9 (zl m) c9, .int .i64 (e)]) (by simp [results, Tryz.results183, go_sem, k0, k1, k2]) rfl ⟨_, rfl, isD_n (LP.getN (by simp)), LP.below⟩
set_option maxHeartbeats 8000000 in
theorem ibetween_any (m e n f : Int) (vx vy : Value) (w : World) (hx : IsD w vx m e) (hy : IsD w vy n f) (lm : zl m ≤ 1000) (ln : zl n ≤ 1000) (he : -70000 ≤ e ∧ e ≤ 70000) (hf : -70000 ≤ f ∧ f ≤ 70000) :
    Calls Tryz.prog 141 #[vx, vy] w (RetI6 w m e n f) := by
  obtain ⟨A, c, rfl, _, hn1⟩ := hx.form
  obtain ⟨B, d, rfl, _, hn2⟩ := hy.form
  have L0 := ((Lq.mk0 w).n hn2).n hn1
  have H1 := Lib.hid (fun v W h => icopied_any m e v W h lm)
  have H2 := Lib.hid (fun v W h => icopied_any n f v W h ln)
  clear hx hy hn1 hn2 lm ln he hf
  go_enter Tryz.func141, Tryz.ntmps141
  go_wp2_with fail
  have L := (((L0.varD (w.heap.size) (by simp) (ng m) A (zl m) c e).varD (w.heap.size + 1) (by simp) (ng n) B (zl n) d f).varI (w.heap.size + 2) (by simp) false none 0 0 0 false none 0 0 0)
  replace L := L.drew
  have c00 := L.b0.c60
  have f00 := L.b0.fr 0
  have c01 := L.b0.c61
  have f01 := L.b0.fr 1
  have c02 := L.b0.c62
  have f02 := L.b0.fr 2
  have c03 := L.b0.c63
  have f03 := L.b0.fr 3
  have c04 := L.b0.c64
  have f04 := L.b0.fr 4
  have c05 := L.b0.c65
  have f05 := L.b0.fr 5
  have c10 := L.tl.b0.c30
  have c11 := L.tl.b0.c31
  have c12 := L.tl.b0.c32
  have c20 := L.tl.tl.b0.c30
  have c21 := L.tl.tl.b0.c31
  have c22 := L.tl.tl.b0.c32
  go_region_held3 (fun w' => w'.cell? ⟨w.heap.size, 0, none⟩ = some (.bool (ng m)) ∧ w'.cell? ⟨w.heap.size, 1, none⟩ = some (.slice A (zl m) c) ∧ w'.cell? ⟨w.heap.size, 2, none⟩ = some (.int .i64 e) ∧ w'.cell? ⟨w.heap.size + 1, 0, none⟩ = some (.bool (ng n)) ∧ w'.cell? ⟨w.heap.size + 1, 1, none⟩ = some (.slice B (zl n) d) ∧ w'.cell? ⟨w.heap.size + 1, 2, none⟩ = some (.int .i64 f)) (first | (with_reducible exact ⟨L.tl.tl.b0.c30, L.tl.tl.b0.c31, L.tl.tl.b0.c32, L.tl.b0.c30, L.tl.b0.c31, L.tl.b0.c32⟩) | (have LP := L.putI (by omega) (by first | (simp; done) | (simp; omega)) (ng m) A8 (zl m) c8 (e) (ng n) A9 (zl n) c9 (f); unfold put6 at LP; with_reducible exact ⟨LP.tl.tl.b0.c30, LP.tl.tl.b0.c31, LP.tl.tl.b0.c32, LP.tl.b0.c30, LP.tl.b0.c31, LP.tl.b0.c32⟩) | exact ⟨L.tl.tl.b0.c30, L.tl.tl.b0.c31, L.tl.tl.b0.c32, L.tl.b0.c30, L.tl.b0.c31, L.tl.b0.c32⟩) (first | (go_at_call 183; (with_reducible refine (H1.out _ _ ?_ ).mono ?_); (· (refine isD_n (L.getN ?_); (repeat (first | (with_reducible exact List.mem_cons_self) | apply List.mem_cons_of_mem)))); rintro e wh ⟨vh, rfl, id, be⟩; obtain ⟨A8, c8, rfl, _, in9⟩ := id.form; replace L := (L.step be).n in9; clear be id in9; (try (have x00 := L.b0.c60; have y00 := L.b0.fr 0; have x01 := L.b0.c61; have y01 := L.b0.fr 1; have x02 := L.b0.c62; have y02 := L.b0.fr 2; have x03 := L.b0.c63; have y03 := L.b0.fr 3; have x04 := L.b0.c64; have y04 := L.b0.fr 4; have x05 := L.b0.c65; have y05 := L.b0.fr 5))) | (go_at_call 183; (with_reducible refine (H2.out _ _ ?_ ).mono ?_); (· (refine isD_n (L.getN ?_); (repeat (first | (with_reducible exact List.mem_cons_self) | apply List.mem_cons_of_mem)))); rintro e wh ⟨vh, rfl, id, be⟩; obtain ⟨A9, c9, rfl, _, in9⟩ := id.form; replace L := (L.step be).n in9; clear be id in9; (try (have x00 := L.b0.c60; have y00 := L.b0.fr 0; have x01 := L.b0.c61; have y01 := L.b0.fr 1; have x02 := L.b0.c62; have y02 := L.b0.fr 2; have x03 := L.b0.c63; have y03 := L.b0.fr 3; have x04 := L.b0.c64; have y04 := L.b0.fr 4; have x05 := L.b0.c65; have y05 := L.b0.fr 5))))
  clear c00 f00 c01 f01 c02 f02 c03 f03 c04 f04 c05 f05 c10 c11 c12 c20 c21 c22
  go_wp2_with fail
  have LP := L.putI (by omega) (by first | (simp; done) | (simp; omega)) (ng m) A8 (zl m) c8 e (ng n) A9 (zl n) c9 f
  have k0 := LP.b0.c60
  have k1 := LP.b0.c61
  have k2 := LP.b0.c62
  have k3 := LP.b0.c63
  have k4 := LP.b0.c64
  have k5 := LP.b0.c65
  unfold put6 at k0 k1 k2 k3 k4 k5
  exact bodyPost_ret (v := .agg #[.bool (ng m), .slice A8 (zl m) c8, .int .i64 e, .bool (ng n), .slice A9 (zl n) c9, .int .i64 f]) (by simp [results, Tryz.results141, go_sem, k0, k1, k2, k3, k4, k5]) rfl ⟨_, rfl, isI_n (LP.getN (by simp)) (LP.getN (by simp)), LP.below⟩
set_option maxHeartbeats 4000000 in
theorem i10point_any (m e : Int) (vx : Value) (w : World) (hx : IsD w vx m e) (lm : zl m ≤ 1000) (he : -20000 ≤ e ∧ e ≤ 20000) (_hv : Dv m e) :
    Calls Tryz.prog 88 #[vx] w (RetI6 w m e m e) := by
  obtain ⟨A, c, rfl, _, hn1⟩ := hx.form
  have L0 := (Lq.mk0 w).n hn1
  have H1 := Lib.hid (fun v u W k1 k2 => ibetween_any m e m e v u W k1 k2 lm lm (by omega) (by omega))
  clear hx hn1 lm he
  go_enter Tryz.func88, Tryz.ntmps88
  go_wp2_with fail
  have L := ((L0.varD (w.heap.size) (by simp) (ng m) A (zl m) c e).varI (w.heap.size + 1) (by simp) false none 0 0 0 false none 0 0 0)
  have c00 := L.b0.c60
  have f00 := L.b0.fr 0
  have c01 := L.b0.c61
  have f01 := L.b0.fr 1
  have c02 := L.b0.c62
  have f02 := L.b0.fr 2
  have c03 := L.b0.c63
  have f03 := L.b0.fr 3
  have c04 := L.b0.c64
  have f04 := L.b0.fr 4
  have c05 := L.b0.c65
  have f05 := L.b0.fr 5
  have c10 := L.tl.b0.c30
  have c11 := L.tl.b0.c31
  have c12 := L.tl.b0.c32
  (try go_wp2_with fail)
  refine (H1.out _ _ _ (isD_n (m := m) (e := e) (s := .slice A (zl m) c) (L.getN (v := .slice A (zl m) c) (x := (m).natAbs) (by simp))) (isD_n (m := m) (e := e) (s := .slice A (zl m) c) (L.getN (v := .slice A (zl m) c) (x := (m).natAbs) (by simp)))).mono ?_
  rintro e w1 ⟨v8, rfl, ii, be⟩
  clear c00 f00 c01 f01 c02 f02 c03 f03 c04 f04 c05 f05 c10 c11 c12
  obtain ⟨A8, c8, B8, d8, rfl, ia, ib⟩ := ii.form
  replace L := ((L.step be).n ib).n ia
  clear be ii ia ib
  have c00 := L.b0.c60
  have f00 := L.b0.fr 0
  have c01 := L.b0.c61
  have f01 := L.b0.fr 1
  have c02 := L.b0.c62
  have f02 := L.b0.fr 2
  have c03 := L.b0.c63
  have f03 := L.b0.fr 3
  have c04 := L.b0.c64
  have f04 := L.b0.fr 4
  have c05 := L.b0.c65
  have f05 := L.b0.fr 5
  (try go_wp2_with fail)
  have LP := L.putI (by omega) (by first | (simp; done) | (simp; omega)) (ng m) A8 (zl m) c8 e (ng m) B8 (zl m) d8 e
  have k0 := LP.b0.c60
  have k1 := LP.b0.c61
  have k2 := LP.b0.c62
  have k3 := LP.b0.c63
  have k4 := LP.b0.c64
  have k5 := LP.b0.c65
  unfold put6 at k0 k1 k2 k3 k4 k5
  exact bodyPost_ret (v := .agg #[.bool (ng m), .slice A8 (zl m) c8, .int .i64 e, .bool (ng m), .slice B8 (zl m) d8, .int .i64 e]) (by simp [results, Tryz.results88, go_sem, k0, k1, k2, k3, k4, k5]) rfl ⟨_, rfl, isI_n (LP.getN (by simp)) (LP.getN (by simp)), LP.below⟩
set_option maxHeartbeats 16000000 in
theorem aenclR_any (a : Int) (d : Nat) (a2 : Int) (q : Nat) (k : Int) (vx vy : Value) (w : World) (hx : IsP w vx a d) (hy : IsP w vy a2 q) (la : zl a ≤ 800) (ld : len d ≤ 800) (hd : 0 < d) (lb : zl a2 ≤ 800) (lq : len q ≤ 800) (hq : 0 < q) (hw : workB k = true) (hT : Tab w) :
    Calls Tryz.prog 146 #[vx, vy, .int .i64 k, .func (.func 147) #[] #[], .func (.func 148) #[] #[]] w (RetEn w (Rat.divInt a (d : Int)) (Rat.divInt a2 (q : Int)) k) := by
  obtain ⟨wp, wk1, wk2⟩ := work_perm hw
  obtain ⟨A, c, B, i, rfl, _, _, _⟩ := hx.form
  obtain ⟨A', c', B', i', rfl, _, _, _⟩ := hy.form
  have L0 := ((Lq.mk0 w).q hy).q hx
  have y4 := zl_neg a2
  have y1 := zl_cut a d hd k
  have y2 := zl_cut (-a2) q hq k
  rw [← Rat.neg_divInt] at y2
  have f1 := fun v W h (hW : Below w.heap.size w W) => gfloorR_any a d k v W h (by omega) (by omega) hd (by omega) (by omega) (hT.mono hW)
  have f2 := fun v W h (hW : Below w.heap.size w W) => gceilR_any a2 q k v W h (by omega) (by omega) hq (by omega) (by omega) (hT.mono hW)
  obtain ⟨lo, hlo⟩ : ∃ lo, Rat.divInt a (d : Int) = lo := ⟨_, rfl⟩
  obtain ⟨hi, hhi⟩ : ∃ hi, Rat.divInt a2 (q : Int) = hi := ⟨_, rfl⟩
  rw [hlo] at f1 y1 ⊢
  rw [hhi] at f2 y2 ⊢
  have y3 := zl_neg (cutQ (-hi) k)
  have y5 := zl_mk (cutQ lo k) (-k)
  have y6 := zl_mk (-(cutQ (-hi) k)) (-k)
  rw [(g_yes wp (cutQ lo k)).1, (g_yes wp (cutQ lo k)).2.1, (g_yes wp (cutQ lo k)).2.2] at f1
  rw [(g_yes wp (-(cutQ (-hi) k))).1, (g_yes wp (-(cutQ (-hi) k))).2.1, (g_yes wp (-(cutQ (-hi) k))).2.2] at f2
  have hsm := Lib.hid (fun (q1 : mkR (cutQ lo k) (-k) = 0) (q2 : mkR (-(cutQ (-hi) k)) (-k) = 0) v W h => (show Calls Tryz.prog 55 #[v] W (RetB W (enB lo hi k)) from asmall_any (enM lo k) (enE lo k) (upM hi k) (upE hi k) v W h (by unfold enM; omega) (by unfold upM; omega) (by have := dv_bound (mk_ok q1); unfold enE; omega) (by have := dv_bound (mk_ok q2); unfold upE; omega) (mk_ok q1) (mk_ok q2)))
  have HRT := Lib.hid (show RetEn w lo hi k = if mkR (cutQ lo k) (-k) = 0 ∧ mkR (-(cutQ (-hi) k)) (-k) = 0 ∧ enB lo hi k = true then RetIE w (enM lo k) (enE lo k) (upM hi k) (upE hi k) 0 else RetIE w 0 0 0 0 3 from by unfold RetEn; rw [if_pos hw])
  unfold enM enE upM upE at hsm HRT
  have H1 := Lib.hid f1
  have H2 := Lib.hid f2
  clear f1 f2 hlo hhi y1 y2 y3 y4 y5 y6 wp hx hy la ld hd lb lq hq hw hT wk1 wk2
  generalize mkR (cutQ lo k) (-k) = R1 at *
  generalize mkR (-(cutQ (-hi) k)) (-k) = R2 at *
  generalize mkM (cutQ lo k) (-k) = M at *
  generalize mkE (cutQ lo k) (-k) = E at *
  generalize mkM (-(cutQ (-hi) k)) (-k) = N at *
  generalize mkE (-(cutQ (-hi) k)) (-k) = G at *
  generalize enB lo hi k = b at *
  cases hr1 : decide (R1 = 0)
  · replace hr1 := of_decide_eq_false hr1
    have e1 : (R1 != 0) = true := by simpa using hr1
    have e2 : (R1 == 0) = false := by simpa using hr1
    clear hsm
    go_enter Tryz.func146, Tryz.ntmps146
    go_wp2_with fail
    have L := (((L0.varQ (w.heap.size) (by simp) (ng a) A B (zl a) c (len d) i).varQ (w.heap.size + 1) (by simp) (ng a2) A' B' (zl a2) c' (len q) i').varI (w.heap.size + 2) (by simp) false none 0 0 0 false none 0 0 0)
    obtain ⟨gr, hgr⟩ : ∃ gr, w.heap.size + 1 + 1 = gr := ⟨_, rfl⟩
    have hgr2 : w.heap.size + 2 = gr := hgr
    rw [hgr2] at L
    rw [hgr]
    have hgw : w.heap.size + 1 < gr := by omega
    clear hgr hgr2
    have cel20 := L.tl.tl.b0.c30
    have cel21 := L.tl.tl.b0.c31
    have cel22 := L.tl.tl.b0.c32
    go_wp2_with fail
    refine (H1.out _ _ (L.getQ (v := .agg #[.bool (ng a), .slice A (zl a) c, .slice B (len d) i]) (a := a) (d := d) (by simp)) L.below).mono ?_
    rintro e w1 ⟨vv, rfl, id, be⟩
    clear cel20 cel21 cel22
    obtain ⟨A8, c8, rfl, _, in9⟩ := id.form
    replace L := (L.step be).n in9
    clear be id in9
    have hlg8 := L.b0.lt
    replace L := L.varD w1.heap.size rfl (ng M) A8 (zl M) c8 E
    have cel20 := L.tl.tl.b0.c30
    have cel21 := L.tl.tl.b0.c31
    have cel22 := L.tl.tl.b0.c32
    go_wp2_with fail
    obtain ⟨g8, hg⟩ : ∃ g, w1.heap.size = g := ⟨_, rfl⟩
    rw [hg] at L hlg8 ⊢
    clear hg
    refine (H2.out _ _ (L.getQ (v := .agg #[.bool (ng a2), .slice A' (zl a2) c', .slice B' (len q) i']) (a := a2) (d := q) (by simp)) L.below).mono ?_
    rintro e w2 ⟨vv, rfl, id, be⟩
    clear cel20 cel21 cel22
    obtain ⟨A9, c9, rfl, _, in9⟩ := id.form
    replace L := (L.step be).n in9
    clear be id in9
    have hl9 := L.b0.lt
    replace L := L.varD w2.heap.size rfl (ng N) A9 (zl N) c9 G
    have cel00 := L.b0.c30
    have cel01 := L.b0.c31
    have cel02 := L.b0.c32
    have cel10 := L.tl.b0.c30
    have cel11 := L.tl.b0.c31
    have cel12 := L.tl.b0.c32
    replace L := L.varI (w2.heap.size + 1) (by simp) (ng M) A8 (zl M) c8 E (ng N) A9 (zl N) c9 G
    have cem00 := L.b0.c60
    have cem01 := L.b0.c61
    have cem02 := L.b0.c62
    have cem03 := L.b0.c63
    have cem04 := L.b0.c64
    have cem05 := L.b0.c65
    have R := L.pick [(gr, 28, #[.bool false, .slice none 0 0, .int .i64 0, .bool false, .slice none 0 0, .int .i64 0])] (by simp)
    have r0 := R.b0.c60
    have s0 := R.b0.fr 0
    have r1 := R.b0.c61
    have s1 := R.b0.fr 1
    have r2 := R.b0.c62
    have s2 := R.b0.fr 2
    have r3 := R.b0.c63
    have s3 := R.b0.fr 3
    have r4 := R.b0.c64
    have s4 := R.b0.fr 4
    have r5 := R.b0.c65
    have s5 := R.b0.fr 5
    go_wp2_with fail
    have LP := R.putI (by omega) (by simp) false none 0 0 0 false none 0 0 0
    have k0' := LP.b0.c60
    have k1' := LP.b0.c61
    have k2' := LP.b0.c62
    have k3' := LP.b0.c63
    have k4' := LP.b0.c64
    have k5' := LP.b0.c65
    unfold put6 at k0' k1' k2' k3' k4' k5'
    exact bodyPost_ret (v := .tuple #[.agg #[.bool false, .slice none 0 0, .int .i64 0, .bool false, .slice none 0 0, .int .i64 0], .int .i64 3]) (by simp [results, Tryz.results146, go_sem, k0', k1', k2', k3', k4', k5']) rfl (by rw [HRT.out, if_neg (fun h => hr1 h.1)]; exact ⟨_, rfl, isI_zero _, LP.below⟩)
  · obtain rfl := of_decide_eq_true hr1
    have HR1 := Lib.hid (rfl : (0 : Int) = 0)
    clear hr1
    cases hr2 : decide (R2 = 0)
    · replace hr2 := of_decide_eq_false hr2
      have e1 : (R2 != 0) = true := by simpa using hr2
      have e2 : (R2 == 0) = false := by simpa using hr2
      clear hsm
      go_enter Tryz.func146, Tryz.ntmps146
      go_wp2_with fail
      have L := (((L0.varQ (w.heap.size) (by simp) (ng a) A B (zl a) c (len d) i).varQ (w.heap.size + 1) (by simp) (ng a2) A' B' (zl a2) c' (len q) i').varI (w.heap.size + 2) (by simp) false none 0 0 0 false none 0 0 0)
      obtain ⟨gr, hgr⟩ : ∃ gr, w.heap.size + 1 + 1 = gr := ⟨_, rfl⟩
      have hgr2 : w.heap.size + 2 = gr := hgr
      rw [hgr2] at L
      rw [hgr]
      have hgw : w.heap.size + 1 < gr := by omega
      clear hgr hgr2
      have cel20 := L.tl.tl.b0.c30
      have cel21 := L.tl.tl.b0.c31
      have cel22 := L.tl.tl.b0.c32
      go_wp2_with fail
      refine (H1.out _ _ (L.getQ (v := .agg #[.bool (ng a), .slice A (zl a) c, .slice B (len d) i]) (a := a) (d := d) (by simp)) L.below).mono ?_
      rintro e w1 ⟨vv, rfl, id, be⟩
      clear cel20 cel21 cel22
      obtain ⟨A8, c8, rfl, _, in9⟩ := id.form
      replace L := (L.step be).n in9
      clear be id in9
      have hlg8 := L.b0.lt
      replace L := L.varD w1.heap.size rfl (ng M) A8 (zl M) c8 E
      have cel20 := L.tl.tl.b0.c30
      have cel21 := L.tl.tl.b0.c31
      have cel22 := L.tl.tl.b0.c32
      go_wp2_with fail
      obtain ⟨g8, hg⟩ : ∃ g, w1.heap.size = g := ⟨_, rfl⟩
      rw [hg] at L hlg8 ⊢
      clear hg
      refine (H2.out _ _ (L.getQ (v := .agg #[.bool (ng a2), .slice A' (zl a2) c', .slice B' (len q) i']) (a := a2) (d := q) (by simp)) L.below).mono ?_
      rintro e w2 ⟨vv, rfl, id, be⟩
      clear cel20 cel21 cel22
      obtain ⟨A9, c9, rfl, _, in9⟩ := id.form
      replace L := (L.step be).n in9
      clear be id in9
      have hl9 := L.b0.lt
      replace L := L.varD w2.heap.size rfl (ng N) A9 (zl N) c9 G
      have cel00 := L.b0.c30
      have cel01 := L.b0.c31
      have cel02 := L.b0.c32
      have cel10 := L.tl.b0.c30
      have cel11 := L.tl.b0.c31
      have cel12 := L.tl.b0.c32
      replace L := L.varI (w2.heap.size + 1) (by simp) (ng M) A8 (zl M) c8 E (ng N) A9 (zl N) c9 G
      have cem00 := L.b0.c60
      have cem01 := L.b0.c61
      have cem02 := L.b0.c62
      have cem03 := L.b0.c63
      have cem04 := L.b0.c64
      have cem05 := L.b0.c65
      have R := L.pick [(gr, 28, #[.bool false, .slice none 0 0, .int .i64 0, .bool false, .slice none 0 0, .int .i64 0])] (by simp)
      have r0 := R.b0.c60
      have s0 := R.b0.fr 0
      have r1 := R.b0.c61
      have s1 := R.b0.fr 1
      have r2 := R.b0.c62
      have s2 := R.b0.fr 2
      have r3 := R.b0.c63
      have s3 := R.b0.fr 3
      have r4 := R.b0.c64
      have s4 := R.b0.fr 4
      have r5 := R.b0.c65
      have s5 := R.b0.fr 5
      go_wp2_with fail
      have LP := R.putI (by omega) (by simp) false none 0 0 0 false none 0 0 0
      have k0' := LP.b0.c60
      have k1' := LP.b0.c61
      have k2' := LP.b0.c62
      have k3' := LP.b0.c63
      have k4' := LP.b0.c64
      have k5' := LP.b0.c65
      unfold put6 at k0' k1' k2' k3' k4' k5'
      exact bodyPost_ret (v := .tuple #[.agg #[.bool false, .slice none 0 0, .int .i64 0, .bool false, .slice none 0 0, .int .i64 0], .int .i64 3]) (by simp [results, Tryz.results146, go_sem, k0', k1', k2', k3', k4', k5']) rfl (by rw [HRT.out, if_neg (fun h => hr2 h.2.1)]; exact ⟨_, rfl, isI_zero _, LP.below⟩)
    · obtain rfl := of_decide_eq_true hr2
      have HR2 := Lib.hid (rfl : (0 : Int) = 0)
      have HS := Lib.hid (hsm.out rfl rfl)
      clear hr2 hsm
      go_enter Tryz.func146, Tryz.ntmps146
      go_wp2_with fail
      have L := (((L0.varQ (w.heap.size) (by simp) (ng a) A B (zl a) c (len d) i).varQ (w.heap.size + 1) (by simp) (ng a2) A' B' (zl a2) c' (len q) i').varI (w.heap.size + 2) (by simp) false none 0 0 0 false none 0 0 0)
      obtain ⟨gr, hgr⟩ : ∃ gr, w.heap.size + 1 + 1 = gr := ⟨_, rfl⟩
      have hgr2 : w.heap.size + 2 = gr := hgr
      rw [hgr2] at L
      rw [hgr]
      have hgw : w.heap.size + 1 < gr := by omega
      clear hgr hgr2
      have cel20 := L.tl.tl.b0.c30
      have cel21 := L.tl.tl.b0.c31
      have cel22 := L.tl.tl.b0.c32
      go_wp2_with fail
      refine (H1.out _ _ (L.getQ (v := .agg #[.bool (ng a), .slice A (zl a) c, .slice B (len d) i]) (a := a) (d := d) (by simp)) L.below).mono ?_
      rintro e w1 ⟨vv, rfl, id, be⟩
      clear cel20 cel21 cel22
      obtain ⟨A8, c8, rfl, _, in9⟩ := id.form
      replace L := (L.step be).n in9
      clear be id in9
      have hlg8 := L.b0.lt
      replace L := L.varD w1.heap.size rfl (ng M) A8 (zl M) c8 E
      have cel20 := L.tl.tl.b0.c30
      have cel21 := L.tl.tl.b0.c31
      have cel22 := L.tl.tl.b0.c32
      go_wp2_with fail
      obtain ⟨g8, hg⟩ : ∃ g, w1.heap.size = g := ⟨_, rfl⟩
      rw [hg] at L hlg8 ⊢
      clear hg
      refine (H2.out _ _ (L.getQ (v := .agg #[.bool (ng a2), .slice A' (zl a2) c', .slice B' (len q) i']) (a := a2) (d := q) (by simp)) L.below).mono ?_
      rintro e w2 ⟨vv, rfl, id, be⟩
      clear cel20 cel21 cel22
      obtain ⟨A9, c9, rfl, _, in9⟩ := id.form
      replace L := (L.step be).n in9
      clear be id in9
      have hl9 := L.b0.lt
      replace L := L.varD w2.heap.size rfl (ng N) A9 (zl N) c9 G
      have cel00 := L.b0.c30
      have cel01 := L.b0.c31
      have cel02 := L.b0.c32
      have cel10 := L.tl.b0.c30
      have cel11 := L.tl.b0.c31
      have cel12 := L.tl.b0.c32
      replace L := L.varI (w2.heap.size + 1) (by simp) (ng M) A8 (zl M) c8 E (ng N) A9 (zl N) c9 G
      have cem00 := L.b0.c60
      have cem01 := L.b0.c61
      have cem02 := L.b0.c62
      have cem03 := L.b0.c63
      have cem04 := L.b0.c64
      have cem05 := L.b0.c65
      go_wp2_with fail
      refine (HS.out _ _ (isI_n (s := .slice A8 (zl M) c8) (t := .slice A9 (zl N) c9) (L.getN (by simp)) (L.getN (by simp)))).mono ?_
      rintro e w3 ⟨rfl, be⟩
      clear cem00 cem01 cem02 cem03 cem04 cem05 cel00 cel01 cel02 cel10 cel11 cel12
      replace L := L.step be
      clear be
      cases b
      · skip
        have cel00 := L.b0.c60
        have cel01 := L.b0.c61
        have cel02 := L.b0.c62
        have cel03 := L.b0.c63
        have cel04 := L.b0.c64
        have cel05 := L.b0.c65
        have R := L.pick [(gr, 28, #[.bool false, .slice none 0 0, .int .i64 0, .bool false, .slice none 0 0, .int .i64 0])] (by simp)
        have r0 := R.b0.c60
        have s0 := R.b0.fr 0
        have r1 := R.b0.c61
        have s1 := R.b0.fr 1
        have r2 := R.b0.c62
        have s2 := R.b0.fr 2
        have r3 := R.b0.c63
        have s3 := R.b0.fr 3
        have r4 := R.b0.c64
        have s4 := R.b0.fr 4
        have r5 := R.b0.c65
        have s5 := R.b0.fr 5
        go_wp2_with fail
        have LP := R.putI (by omega) (by simp) false none 0 0 0 false none 0 0 0
        have k0' := LP.b0.c60
        have k1' := LP.b0.c61
        have k2' := LP.b0.c62
        have k3' := LP.b0.c63
        have k4' := LP.b0.c64
        have k5' := LP.b0.c65
        unfold put6 at k0' k1' k2' k3' k4' k5'
        exact bodyPost_ret (v := .tuple #[.agg #[.bool false, .slice none 0 0, .int .i64 0, .bool false, .slice none 0 0, .int .i64 0], .int .i64 3]) (by simp [results, Tryz.results146, go_sem, k0', k1', k2', k3', k4', k5']) rfl (by rw [HRT.out, if_neg (fun h => (by cases h.2.2))]; exact ⟨_, rfl, isI_zero _, LP.below⟩)
      · skip
        have cel00 := L.b0.c60
        have cel01 := L.b0.c61
        have cel02 := L.b0.c62
        have cel03 := L.b0.c63
        have cel04 := L.b0.c64
        have cel05 := L.b0.c65
        have R := L.pick [(gr, 28, #[.bool false, .slice none 0 0, .int .i64 0, .bool false, .slice none 0 0, .int .i64 0])] (by simp)
        have r0 := R.b0.c60
        have s0 := R.b0.fr 0
        have r1 := R.b0.c61
        have s1 := R.b0.fr 1
        have r2 := R.b0.c62
        have s2 := R.b0.fr 2
        have r3 := R.b0.c63
        have s3 := R.b0.fr 3
        have r4 := R.b0.c64
        have s4 := R.b0.fr 4
        have r5 := R.b0.c65
        have s5 := R.b0.fr 5
        go_wp2_with fail
        have LP := R.putI (by omega) (by simp) (ng M) A8 (zl M) c8 E (ng N) A9 (zl N) c9 G
        have k0' := LP.b0.c60
        have k1' := LP.b0.c61
        have k2' := LP.b0.c62
        have k3' := LP.b0.c63
        have k4' := LP.b0.c64
        have k5' := LP.b0.c65
        unfold put6 at k0' k1' k2' k3' k4' k5'
        exact bodyPost_ret (v := .tuple #[.agg #[.bool (ng M), .slice A8 (zl M) c8, .int .i64 E, .bool (ng N), .slice A9 (zl N) c9, .int .i64 G], .int .i64 0]) (by simp [results, Tryz.results146, go_sem, k0', k1', k2', k3', k4', k5']) rfl (by rw [HRT.out, if_pos ⟨HR1.out, HR2.out, by first | trivial | rfl⟩]; exact ⟨_, rfl, isI_n (LP.getN (by simp)) (LP.getN (by simp)), LP.below⟩)

/-- No cell of a block is a digit of a natural. -/
def NoDig (w : World) (g : Nat) : Prop := ∀ (j : Nat) (x : Int), w.cell? ⟨g, j, none⟩ ≠ some (.int .u32 x)
def OwnC (w : World) (B : Nat) (e : TypeId) (v : Value) (n : Nat) (xs : List Value) : Prop := w.ownsRow B e 3 v n xs ∧ ∀ g, v.ownBlock = some g → NoDig w g
theorem IsN.kept {w w' : World} {row : Option Nat} {v : Value} {x : Nat} (h : IsN w v x) (hg : w.grownBy w' row) (hn : ∀ g, row = some g → NoDig w g) : IsN w' v x := by
  obtain ⟨A, n, c, e, hs⟩ := h
  refine ⟨A, n, c, e, hs.len, hs.cap, hs.most, hs.small, fun hp => ?_⟩
  obtain ⟨b, off, h1, h2, h3⟩ := hs.place hp
  have hne : some b ≠ row := fun he => hn b he.symm (off + 0) _ (h3 0 hp)
  exact ⟨b, off, h1, Nat.lt_of_lt_of_le h2 hg.size, fun j hj => hg.cell (a := ⟨b, off + j, none⟩) (h3 j hj) hne⟩
theorem IsP.kept {w w' : World} {row : Option Nat} {v : Value} {a : Int} {d : Nat} (h : IsP w v a d) (hg : w.grownBy w' row) (hn : ∀ g, row = some g → NoDig w g) : IsP w' v a d := by
  obtain ⟨s, t, e, h1, h2⟩ := h
  exact ⟨s, t, e, h1.kept hg hn, h2.kept hg hn⟩
theorem OwnC.nil (w : World) (B : Nat) (e : TypeId) : OwnC w B e (.slice none 0 0) 0 [] := ⟨World.ownsRow_nil w B e 3, fun g h => by cases h⟩
theorem OwnC.below {w w' : World} {B n : Nat} {e : TypeId} {v : Value} {xs : List Value} (h : OwnC w B e v n xs) (hb : Below w.heap.size w w') : OwnC w' B e v n xs := by
  obtain ⟨h0, hd⟩ := h
  have hlt := h0.lt
  obtain ⟨h1, h2⟩ := h0
  refine ⟨⟨h1, ?_⟩, fun g hg j x hc => hd g hg j x ?_⟩
  · rcases h2 with h2 | ⟨g, cap, cur, e1, e2, e3, e4⟩
    · exact .inl h2
    · refine .inr ⟨g, cap, cur, e1, e2, ?_, e4⟩
      rw [hb.block g (hlt g (by rw [e1]; rfl)).2]; exact e3
  · rw [← hb.cell (p := ⟨g, j, none⟩) (hlt g hg).2]; exact hc
theorem OwnC.blockGe {w : World} {B n : Nat} {e : TypeId} {v : Value} {xs : List Value} (h : OwnC w B e v n xs) : ∀ g, v.ownBlock = some g → B ≤ g := fun g hg => (h.1.lt g hg).1
def OwnDy (w : World) (B : Nat) (v : Value) (l : List (Int × Int)) : Prop := ∃ xs, OwnC w B 26 v l.length xs ∧ ∀ (j : Nat) (p : Int × Int), l[j]? = some p → ∃ A c, xs[3 * j]? = some (.bool (ng p.1)) ∧ xs[3 * j + 1]? = some (.slice A (zl p.1) c) ∧ xs[3 * j + 2]? = some (.int .i64 p.2) ∧ IsN w (.slice A (zl p.1) c) p.1.natAbs
theorem OwnDy.nil (w : World) (B : Nat) : OwnDy w B (.slice none 0 0) [] := ⟨[], OwnC.nil w B _, fun j p h => by simp at h⟩
theorem OwnDy.below {w w' : World} {B : Nat} {v : Value} {l : List (Int × Int)} (h : OwnDy w B v l) (hb : Below w.heap.size w w') : OwnDy w' B v l := by
  obtain ⟨xs, h1, h2⟩ := h
  refine ⟨xs, h1.below hb, fun j p hp => ?_⟩
  obtain ⟨A, c, a1, a2, a3, a4⟩ := h2 j p hp
  exact ⟨A, c, a1, a2, a3, a4.mono hb⟩
theorem OwnDy.blockGe {w : World} {B : Nat} {v : Value} {l : List (Int × Int)} (h : OwnDy w B v l) : ∀ g, v.ownBlock = some g → B ≤ g := by
  obtain ⟨xs, h1, h2⟩ := h
  exact h1.blockGe
theorem OwnDy.row {w : World} {B : Nat} {v : Value} {l : List (Int × Int)} (h : OwnDy w B v l) (h0 : 0 < l.length) : RowD w v l := by
  obtain ⟨xs, h1, h2⟩ := h
  obtain ⟨g, cap, rfl⟩ := Go.Joins.ownsRow_form h1.1 (by omega)
  refine ⟨g, cap, rfl, (h1.1.lt g rfl).2, fun j p hp => ?_⟩
  obtain ⟨A, c, a1, a2, a3, a4⟩ := h2 j p hp
  have hj : j < l.length := by
    rcases Nat.lt_or_ge j l.length with h | h
    · exact h
    · rw [List.getElem?_eq_none h] at hp; cases hp
  exact ⟨A, c, by rw [h1.1.cellAt _ (by omega)]; exact a1, by rw [h1.1.cellAt _ (by omega)]; exact a2, by rw [h1.1.cellAt _ (by omega)]; exact a3, a4⟩
def OwnRa (w : World) (B : Nat) (v : Value) (l : List (Int × Nat)) : Prop := ∃ xs, OwnC w B 55 v l.length xs ∧ ∀ (j : Nat) (p : Int × Nat), l[j]? = some p → ∃ A c B k, xs[3 * j]? = some (.bool (ng p.1)) ∧ xs[3 * j + 1]? = some (.slice A (zl p.1) c) ∧ xs[3 * j + 2]? = some (.slice B (len p.2) k) ∧ IsP w (.agg #[.bool (ng p.1), .slice A (zl p.1) c, .slice B (len p.2) k]) p.1 p.2
theorem OwnRa.nil (w : World) (B : Nat) : OwnRa w B (.slice none 0 0) [] := ⟨[], OwnC.nil w B _, fun j p h => by simp at h⟩
theorem OwnRa.below {w w' : World} {B : Nat} {v : Value} {l : List (Int × Nat)} (h : OwnRa w B v l) (hb : Below w.heap.size w w') : OwnRa w' B v l := by
  obtain ⟨xs, h1, h2⟩ := h
  refine ⟨xs, h1.below hb, fun j p hp => ?_⟩
  obtain ⟨A, c, B, k, a1, a2, a3, a4⟩ := h2 j p hp
  exact ⟨A, c, B, k, a1, a2, a3, a4.mono hb⟩
theorem OwnRa.blockGe {w : World} {B : Nat} {v : Value} {l : List (Int × Nat)} (h : OwnRa w B v l) : ∀ g, v.ownBlock = some g → B ≤ g := by
  obtain ⟨xs, h1, h2⟩ := h
  exact h1.blockGe
theorem OwnRa.row {w : World} {B : Nat} {v : Value} {l : List (Int × Nat)} (h : OwnRa w B v l) (h0 : 0 < l.length) : RowR w v l := by
  obtain ⟨xs, h1, h2⟩ := h
  obtain ⟨g, cap, rfl⟩ := Go.Joins.ownsRow_form h1.1 (by omega)
  refine ⟨g, cap, rfl, (h1.1.lt g rfl).2, fun j p hp => ?_⟩
  obtain ⟨A, c, B, k, a1, a2, a3, a4⟩ := h2 j p hp
  have hj : j < l.length := by
    rcases Nat.lt_or_ge j l.length with h | h
    · exact h
    · rw [List.getElem?_eq_none h] at hp; cases hp
  exact ⟨A, c, B, k, by rw [h1.1.cellAt _ (by omega)]; exact a1, by rw [h1.1.cellAt _ (by omega)]; exact a2, by rw [h1.1.cellAt _ (by omega)]; exact a3, a4⟩
/-- A slice of pairs of dyadics: what its elements stand for. -/
def RowI (w : World) (v : Value) (l : List (Int × Int × Int × Int)) : Prop := ∃ g c, v = .slice (some ⟨g, 0, none⟩) l.length c ∧ g < w.heap.size ∧ ∀ (j : Nat) (p : Int × Int × Int × Int), l[j]? = some p → ∃ A c B d, w.cell? ⟨g, 6 * j, none⟩ = some (.bool (ng p.1)) ∧ w.cell? ⟨g, 6 * j + 1, none⟩ = some (.slice A (zl p.1) c) ∧ w.cell? ⟨g, 6 * j + 2, none⟩ = some (.int .i64 p.2.1) ∧ w.cell? ⟨g, 6 * j + 3, none⟩ = some (.bool (ng p.2.2.1)) ∧ w.cell? ⟨g, 6 * j + 4, none⟩ = some (.slice B (zl p.2.2.1) d) ∧ w.cell? ⟨g, 6 * j + 5, none⟩ = some (.int .i64 p.2.2.2) ∧ IsN w (.slice A (zl p.1) c) p.1.natAbs ∧ IsN w (.slice B (zl p.2.2.1) d) p.2.2.1.natAbs
theorem RowI.at {w w' : World} {g c n : Nat} {l : List (Int × Int × Int × Int)} (h : RowI w (.slice (some ⟨g, 0, none⟩) n c) l) (hb : Below w.heap.size w w') {j : Nat} {p : Int × Int × Int × Int} (hp : l[j]? = some p) : ∃ A c B d, w'.cell? ⟨g, 6 * j, none⟩ = some (.bool (ng p.1)) ∧ w'.cell? ⟨g, 6 * j + 1, none⟩ = some (.slice A (zl p.1) c) ∧ w'.cell? ⟨g, 6 * j + 2, none⟩ = some (.int .i64 p.2.1) ∧ w'.cell? ⟨g, 6 * j + 3, none⟩ = some (.bool (ng p.2.2.1)) ∧ w'.cell? ⟨g, 6 * j + 4, none⟩ = some (.slice B (zl p.2.2.1) d) ∧ w'.cell? ⟨g, 6 * j + 5, none⟩ = some (.int .i64 p.2.2.2) ∧ IsN w' (.slice A (zl p.1) c) p.1.natAbs ∧ IsN w' (.slice B (zl p.2.2.1) d) p.2.2.1.natAbs := by
  obtain ⟨g', c', r, hg, h⟩ := h
  simp only [Value.slice.injEq, Option.some.injEq, Addr.mk.injEq, and_true] at r
  obtain ⟨rfl, _, _⟩ := r
  obtain ⟨A, c, B, d, h0, h1, h2, h3, h4, h5, h6, h7⟩ := h j p hp
  exact ⟨A, c, B, d, (hb.cell (p := ⟨g, 6 * j, none⟩) hg).trans h0, (hb.cell (p := ⟨g, 6 * j + 1, none⟩) hg).trans h1, (hb.cell (p := ⟨g, 6 * j + 2, none⟩) hg).trans h2, (hb.cell (p := ⟨g, 6 * j + 3, none⟩) hg).trans h3, (hb.cell (p := ⟨g, 6 * j + 4, none⟩) hg).trans h4, (hb.cell (p := ⟨g, 6 * j + 5, none⟩) hg).trans h5, h6.mono hb, h7.mono hb⟩
/-- The quotient of two dyadics as a pair. -/
def qtA (m e n f : Int) : Int := if m = 0 then 0 else (Rat.divInt m n).num * 2 ^ (e - f).toNat
def qtD (m e n f : Int) : Nat := if m = 0 then 1 else (Rat.divInt m n).den * 2 ^ (f - e).toNat
theorem qt_pos (m e n f : Int) : 0 < qtD m e n f := by
  unfold qtD
  split
  · omega
  · exact Nat.mul_pos (Rat.den_pos _) (Nat.pow_pos (by omega))
theorem dq_pow (m e : Int) : dq m e = (m : Rat) * dq 1 e := dq_scale m e
theorem dq_one_sub (e f : Int) : dq 1 (e - f) * dq 1 f = dq 1 e := by
  rw [← dq_mul, Int.mul_one]
  congr 1
  omega
theorem divInt_mul_r (a : Int) (d : Nat) (x y : Nat) (hx : 0 < x) (hy : 0 < y) (hd : 0 < d) : Rat.divInt (a * (x : Int)) ((d * y : Nat) : Int) = Rat.divInt a (d : Int) * Rat.divInt (x : Int) (y : Int) := by
  rw [Rat.divInt_mul_divInt]
  congr 1
theorem qt_val {m e n f : Int} (hn : n ≠ 0) : Rat.divInt (qtA m e n f) (qtD m e n f : Int) = dq m e / dq n f := by
  have hn0 : (n : Rat) ≠ 0 := fun h => hn (Rat.intCast_eq_zero_iff.1 h)
  have hp := dq_pos f
  have hpn : dq 1 f ≠ 0 := fun h => by rw [h] at hp; exact Rat.not_le.2 hp Rat.le_refl
  by_cases h0 : m = 0
  · unfold qtA qtD
    rw [if_pos h0, if_pos h0, h0, dq_pow 0 e, Rat.intCast_zero, Rat.zero_mul, Rat.div_def, Rat.zero_mul]
    rfl
  · unfold qtA qtD
    rw [if_neg h0, if_neg h0]
    have e1 : (2 : Int) ^ (e - f).toNat = ((2 ^ (e - f).toNat : Nat) : Int) := (cast2 _).symm
    rw [e1, divInt_mul_r _ _ _ _ (Nat.pow_pos (by omega)) (Nat.pow_pos (by omega)) (Rat.den_pos _), Rat.num_divInt_den]
    have e2 : Rat.divInt ((2 ^ (e - f).toNat : Nat) : Int) ((2 ^ (f - e).toNat : Nat) : Int) = dq 1 (e - f) := by
      unfold dq
      rw [Int.one_mul, cast2, show -(e - f) = f - e from by omega]
    rw [e2, dq_pow m e, dq_pow n f, ← dq_one_sub e f, Rat.div_def, Rat.inv_mul_rev]
    have e3 : Rat.divInt m n = (m : Rat) * (n : Rat)⁻¹ := by rw [← Rat.div_def]; exact Rat.divInt_eq_div m n
    rw [e3]
    have e4 : dq 1 f * (dq 1 f)⁻¹ = 1 := Rat.mul_inv_cancel _ hpn
    rw [show (m : Rat) * (dq 1 (e - f) * dq 1 f) * ((dq 1 f)⁻¹ * (n : Rat)⁻¹) = (m : Rat) * (dq 1 (e - f) * (dq 1 f * (dq 1 f)⁻¹) * (n : Rat)⁻¹) from by simp only [Rat.mul_assoc], e4, Rat.mul_one, Rat.mul_assoc, Rat.mul_comm (n : Rat)⁻¹]
theorem qt_low {m n : Int} (hn : n ≠ 0) : zl (Rat.divInt m n).num ≤ zl m ∧ len (Rat.divInt m n).den ≤ zl n := by
  obtain ⟨e1, e2⟩ := divInt_pair m n hn
  constructor
  · unfold zl
    rw [e1]
    exact len_mono (by rw [sg_abs]; exact Nat.div_le_self _ _)
  · unfold zl
    rw [e2]
    exact len_mono (Nat.div_le_self _ _)
theorem qt_small {m e n f : Int} (hn : n ≠ 0) (lm : zl m ≤ 25) (ln : zl n ≤ 25) (he : -3000 ≤ e ∧ e ≤ 3000) (hf : -3000 ≤ f ∧ f ≤ 3000) : zl (qtA m e n f) ≤ 800 ∧ len (qtD m e n f) ≤ 800 := by
  obtain ⟨h1, h2⟩ := qt_low (m := m) hn
  unfold qtA qtD
  constructor
  · split
    · rw [zl_zero]; omega
    · have := zl_two (Rat.divInt m n).num (e - f).toNat
      omega
  · split
    · have := len_le1 (show 1 < 4294967296 by omega)
      omega
    · have h3 := len_mul (Rat.divInt m n).den (2 ^ (f - e).toNat)
      have h4 := len_two (f - e).toNat
      omega

set_option maxHeartbeats 4000000 in
theorem anum_any (z e : Int) (vx : Value) (w : World) (hx : IsZ w vx z) (lz : zl z ≤ 1000) (he : -20000 ≤ e ∧ e ≤ 20000) :
    Calls Tryz.prog 185 #[vx, .int .i64 e] w (RetZ w (z * 2 ^ e.toNat)) := by
  obtain ⟨A, c, rfl, _⟩ := hx.form
  have L0 := (Lq.mk0 w).z hx
  have HR := Lib.hid (fun v W h => drat_any z e v W h (by omega) (by omega))
  have hfd : ∀ (x : Bool) (E F : Option Addr) (n1 n2 n3 n4 : Nat) (W : World), (Instr.field 55 (.agg #[.bool x, .slice E n1 n2, .slice F n3 n4]) 0).run Tryz.prog W = .ok (.agg #[.bool x, .slice E n1 n2]) W := fun _ _ _ _ _ _ _ _ => by kernel_rfl
  generalize z * 2 ^ e.toNat = a at *
  generalize 2 ^ (-e).toNat = d at *
  clear hx lz he
  go_enter Tryz.func185, Tryz.ntmps185
  go_wp2_with fail
  have L := ((L0.varZ (w.heap.size) (by simp) (ng z) A (zl z) c).varZ (w.heap.size + 1) (by simp) false none 0 0)
  have c00 := L.b0.c20
  have f00 := L.b0.fr 0
  have c01 := L.b0.c21
  have f01 := L.b0.fr 1
  have c10 := L.tl.b0.c20
  have c11 := L.tl.b0.c21
  (try go_wp2_with fail)
  refine (HR.out _ _ (isD_z (L.getZ (v := .agg #[.bool (ng z), .slice A (zl z) c]) (by simp)))).mono ?_
  rintro e w1 ⟨vq, rfl, iq, be⟩
  clear c00 f00 c01 f01 c10 c11
  obtain ⟨A9, c9, B9, k9, rfl, iz9, _, _⟩ := iq.form
  replace L := (L.step be).z iz9
  clear be iq iz9
  have c00 := L.b0.c20
  have f00 := L.b0.fr 0
  have c01 := L.b0.c21
  have f01 := L.b0.fr 1
  have c10 := L.tl.b0.c20
  have c11 := L.tl.b0.c21
  (try go_wp2_with fail)
  have LP := L.putZ (by omega) (by first | (simp; done) | (simp; omega)) (ng a) A9 (zl a) c9
  have k0 := LP.b0.c20
  have k1 := LP.b0.c21
  unfold put2 at k0 k1
  exact bodyPost_ret (v := .agg #[.bool (ng a), .slice A9 (zl a) c9]) (by simp [results, Tryz.results185, go_sem, k0, k1]) rfl ⟨_, rfl, LP.getZ (by simp), LP.below⟩
set_option maxHeartbeats 4000000 in
theorem absign_any (m e n f n2 f2 : Int) (vx vy vz : Value) (w : World) (hx : IsD w vx m e) (hy : IsD w vy n f) (hz : IsD w vz n2 f2) (lm : zl m ≤ 1000) :
    Calls Tryz.prog 145 #[vx, vy, vz] w (RetD8 w (if m < 0 then n else n2) (if m < 0 then f else f2)) := by
  obtain ⟨A, c, rfl, _, hn1⟩ := hx.form
  obtain ⟨B, d, rfl, _, hn2⟩ := hy.form
  obtain ⟨C, h, rfl, _, hn3⟩ := hz.form
  have L0 := (((Lq.mk0 w).n hn3).n hn2).n hn1
  have hs := fun v W h => dsign_any m e v W h (by omega)
  have hc : cmpI m 0 < 0 ↔ m < 0 := by unfold cmpI; (repeat' split) <;> omega
  obtain ⟨x, hx9⟩ : ∃ x, cmpI m 0 = x := ⟨_, rfl⟩
  rw [hx9] at hs hc
  have HS := Lib.hid hs
  clear hs hx9 hx hy hz hn1 hn2 hn3 lm
  by_cases q : m < 0
  · rw [if_pos q, if_pos q]
    have b1 : decide (x < 0) = true := decide_eq_true (by omega)
    clear hc q
    go_enter Tryz.func145, Tryz.ntmps145
    go_wp2_with fail
    have L := ((((L0.varD (w.heap.size) (by simp) (ng m) A (zl m) c e).varD (w.heap.size + 1) (by simp) (ng n) B (zl n) d f).varD (w.heap.size + 2) (by simp) (ng n2) C (zl n2) h f2).varD (w.heap.size + 3) (by simp) false none 0 0 0)
    obtain ⟨gr, hgr⟩ : ∃ gr, w.heap.size + 1 + 1 + 1 = gr := ⟨_, rfl⟩
    have hgr2 : w.heap.size + 3 = gr := hgr
    obtain ⟨gz, hgz⟩ : ∃ gz, w.heap.size + 1 + 1 = gz := ⟨_, rfl⟩
    have hgz2 : w.heap.size + 2 = gz := hgz
    rw [hgr2, hgz2] at L
    rw [hgr, hgz]
    have hgr3 : w.heap.size + 2 < gr := by omega
    have hgz3 : w.heap.size + 1 < gz := by omega
    have hgr4 : gz < gr := by omega
    clear hgr hgr2 hgz hgz2
    have c00 := L.b0.c30
    have f00 := L.b0.fr 0
    have c01 := L.b0.c31
    have f01 := L.b0.fr 1
    have c02 := L.b0.c32
    have f02 := L.b0.fr 2
    have c10 := L.tl.b0.c30
    have c11 := L.tl.b0.c31
    have c12 := L.tl.b0.c32
    have c20 := L.tl.tl.b0.c30
    have c21 := L.tl.tl.b0.c31
    have c22 := L.tl.tl.b0.c32
    have c30 := L.tl.tl.tl.b0.c30
    have c31 := L.tl.tl.tl.b0.c31
    have c32 := L.tl.tl.tl.b0.c32
    (try go_wp2_with fail)
    refine (HS.out _ _ (isD_n (m := m) (e := e) (s := .slice A (zl m) c) (L.getN (by simp)))).mono ?_
    rintro e w1 ⟨rfl, be⟩
    clear c00 f00 c01 f01 c02 f02 c10 c11 c12 c20 c21 c22 c30 c31 c32
    replace L := L.step be
    clear be
    have c00 := L.b0.c30
    have f00 := L.b0.fr 0
    have c01 := L.b0.c31
    have f01 := L.b0.fr 1
    have c02 := L.b0.c32
    have f02 := L.b0.fr 2
    have c10 := L.tl.b0.c30
    have c11 := L.tl.b0.c31
    have c12 := L.tl.b0.c32
    have c20 := L.tl.tl.b0.c30
    have c21 := L.tl.tl.b0.c31
    have c22 := L.tl.tl.b0.c32
    have c30 := L.tl.tl.tl.b0.c30
    have c31 := L.tl.tl.tl.b0.c31
    have c32 := L.tl.tl.tl.b0.c32
    (try go_wp2_with fail)
    have LP := L.putD (by omega) (by first | (simp; done) | (simp; omega)) (ng n) B (zl n) d (f)
    have k0 := LP.b0.c30
    have k1 := LP.b0.c31
    have k2 := LP.b0.c32
    unfold put3 at k0 k1 k2
    exact bodyPost_ret (v := .agg #[.bool (ng n), .slice B (zl n) d, .int .i64 (f)]) (by simp [results, Tryz.results145, go_sem, k0, k1, k2]) rfl ⟨_, rfl, isD_n (LP.getN (by simp)), LP.below⟩
  · rw [if_neg q, if_neg q]
    have b1 : decide (x < 0) = false := decide_eq_false (by omega)
    clear hc q
    go_enter Tryz.func145, Tryz.ntmps145
    go_wp2_with fail
    have L := ((((L0.varD (w.heap.size) (by simp) (ng m) A (zl m) c e).varD (w.heap.size + 1) (by simp) (ng n) B (zl n) d f).varD (w.heap.size + 2) (by simp) (ng n2) C (zl n2) h f2).varD (w.heap.size + 3) (by simp) false none 0 0 0)
    obtain ⟨gr, hgr⟩ : ∃ gr, w.heap.size + 1 + 1 + 1 = gr := ⟨_, rfl⟩
    have hgr2 : w.heap.size + 3 = gr := hgr
    obtain ⟨gz, hgz⟩ : ∃ gz, w.heap.size + 1 + 1 = gz := ⟨_, rfl⟩
    have hgz2 : w.heap.size + 2 = gz := hgz
    rw [hgr2, hgz2] at L
    rw [hgr, hgz]
    have hgr3 : w.heap.size + 2 < gr := by omega
    have hgz3 : w.heap.size + 1 < gz := by omega
    have hgr4 : gz < gr := by omega
    clear hgr hgr2 hgz hgz2
    have c00 := L.b0.c30
    have f00 := L.b0.fr 0
    have c01 := L.b0.c31
    have f01 := L.b0.fr 1
    have c02 := L.b0.c32
    have f02 := L.b0.fr 2
    have c10 := L.tl.b0.c30
    have c11 := L.tl.b0.c31
    have c12 := L.tl.b0.c32
    have c20 := L.tl.tl.b0.c30
    have c21 := L.tl.tl.b0.c31
    have c22 := L.tl.tl.b0.c32
    have c30 := L.tl.tl.tl.b0.c30
    have c31 := L.tl.tl.tl.b0.c31
    have c32 := L.tl.tl.tl.b0.c32
    (try go_wp2_with fail)
    refine (HS.out _ _ (isD_n (m := m) (e := e) (s := .slice A (zl m) c) (L.getN (by simp)))).mono ?_
    rintro e w1 ⟨rfl, be⟩
    clear c00 f00 c01 f01 c02 f02 c10 c11 c12 c20 c21 c22 c30 c31 c32
    replace L := L.step be
    clear be
    have c00 := L.b0.c30
    have f00 := L.b0.fr 0
    have c01 := L.b0.c31
    have f01 := L.b0.fr 1
    have c02 := L.b0.c32
    have f02 := L.b0.fr 2
    have c10 := L.tl.b0.c30
    have c11 := L.tl.b0.c31
    have c12 := L.tl.b0.c32
    have c20 := L.tl.tl.b0.c30
    have c21 := L.tl.tl.b0.c31
    have c22 := L.tl.tl.b0.c32
    have c30 := L.tl.tl.tl.b0.c30
    have c31 := L.tl.tl.tl.b0.c31
    have c32 := L.tl.tl.tl.b0.c32
    (try go_wp2_with fail)
    have LP := L.putD (by omega) (by first | (simp; done) | (simp; omega)) (ng n2) C (zl n2) h (f2)
    have k0 := LP.b0.c30
    have k1 := LP.b0.c31
    have k2 := LP.b0.c32
    unfold put3 at k0 k1 k2
    exact bodyPost_ret (v := .agg #[.bool (ng n2), .slice C (zl n2) h, .int .i64 (f2)]) (by simp [results, Tryz.results145, go_sem, k0, k1, k2]) rfl ⟨_, rfl, isD_n (LP.getN (by simp)), LP.below⟩
set_option maxHeartbeats 8000000 in
theorem aquot_any (m e n f : Int) (vx vy : Value) (w : World) (hx : IsD w vx m e) (hy : IsD w vy n f) (lm : zl m ≤ 25) (ln : zl n ≤ 25) (he : -3000 ≤ e ∧ e ≤ 3000) (hf : -3000 ≤ f ∧ f ≤ 3000) (hn0 : n ≠ 0) :
    Calls Tryz.prog 144 #[vx, vy] w (RetP w (qtA m e n f) (qtD m e n f)) := by
  obtain ⟨A, c, rfl, hz1, hn1⟩ := hx.form
  obtain ⟨B, d, rfl, hz2, hn2⟩ := hy.form
  have L0 := ((((Lq.mk0 w).z hz2).z hz1).n hn2).n hn1
  have hs := fun v W h => dsign_any m e v W h (by omega)
  have hc : cmpI m 0 = 0 ↔ m = 0 := by unfold cmpI; (repeat' split) <;> omega
  obtain ⟨x, hx9⟩ : ∃ x, cmpI m 0 = x := ⟨_, rfl⟩
  rw [hx9] at hs hc
  have HS := Lib.hid hs
  clear hs hx9
  unfold qtA qtD
  by_cases q : m = 0
  · rw [if_pos q, if_pos q]
    have hx0 : x = 0 := hc.2 q
    have b1 : (x == 0) = true := by rw [hx0]; rfl
    have ho := fun W => pof_any 0 W (by omega) (by omega)
    have HO := Lib.hid (fun W => (show Calls Tryz.prog 155 #[.int .i64 0] W (RetP W 0 1) from ho W))
    clear ho hc q hx hy hz1 hz2 hn1 hn2 lm ln he hf hn0 hx0
    go_enter Tryz.func144, Tryz.ntmps144
    go_wp2_with fail
    have L := (((L0.varD (w.heap.size) (by simp) (ng m) A (zl m) c e).varD (w.heap.size + 1) (by simp) (ng n) B (zl n) d f).varQ (w.heap.size + 2) (by simp) false none none 0 0 0 0)
    obtain ⟨gr, hgr⟩ : ∃ gr, w.heap.size + 1 + 1 = gr := ⟨_, rfl⟩
    have hgr2 : w.heap.size + 2 = gr := hgr
    rw [hgr2] at L
    rw [hgr]
    have hgr3 : w.heap.size + 1 < gr := by omega
    clear hgr hgr2
    have c00 := L.b0.c30
    have f00 := L.b0.fr 0
    have c01 := L.b0.c31
    have f01 := L.b0.fr 1
    have c02 := L.b0.c32
    have f02 := L.b0.fr 2
    have c10 := L.tl.b0.c30
    have c11 := L.tl.b0.c31
    have c12 := L.tl.b0.c32
    have c20 := L.tl.tl.b0.c30
    have c21 := L.tl.tl.b0.c31
    have c22 := L.tl.tl.b0.c32
    (try go_wp2_with fail)
    refine (HS.out _ _ (isD_n (m := m) (e := e) (s := .slice A (zl m) c) (L.getN (by simp)))).mono ?_
    rintro e w1 ⟨rfl, be⟩
    clear c00 f00 c01 f01 c02 f02 c10 c11 c12 c20 c21 c22
    replace L := L.step be
    clear be
    have c00 := L.b0.c30
    have f00 := L.b0.fr 0
    have c01 := L.b0.c31
    have f01 := L.b0.fr 1
    have c02 := L.b0.c32
    have f02 := L.b0.fr 2
    have c10 := L.tl.b0.c30
    have c11 := L.tl.b0.c31
    have c12 := L.tl.b0.c32
    have c20 := L.tl.tl.b0.c30
    have c21 := L.tl.tl.b0.c31
    have c22 := L.tl.tl.b0.c32
    (try go_wp2_with fail)
    refine (HO.out _).mono ?_
    rintro e w2 ⟨vq, rfl, iq, be⟩
    clear c00 f00 c01 f01 c02 f02 c10 c11 c12 c20 c21 c22
    obtain ⟨A9, c9, B9, k9, rfl, _, _, _⟩ := iq.form
    replace L := (L.step be).q iq
    clear be iq
    have c00 := L.b0.c30
    have f00 := L.b0.fr 0
    have c01 := L.b0.c31
    have f01 := L.b0.fr 1
    have c02 := L.b0.c32
    have f02 := L.b0.fr 2
    have c10 := L.tl.b0.c30
    have c11 := L.tl.b0.c31
    have c12 := L.tl.b0.c32
    have c20 := L.tl.tl.b0.c30
    have c21 := L.tl.tl.b0.c31
    have c22 := L.tl.tl.b0.c32
    (try go_wp2_with fail)
    have LP := L.putQ (by omega) (by first | (simp; done) | (simp; omega)) (ng (0)) A9 B9 (zl (0)) c9 (len (1)) k9
    have k0 := LP.b0.c30
    have k1 := LP.b0.c31
    have k2 := LP.b0.c32
    unfold put3 at k0 k1 k2
    exact bodyPost_ret (v := .agg #[.bool (ng (0)), .slice A9 (zl (0)) c9, .slice B9 (len (1)) k9]) (by simp [results, Tryz.results144, go_sem, k0, k1, k2]) rfl ⟨_, rfl, LP.getQ (by simp), LP.below⟩
  · rw [if_neg q, if_neg q]
    have b1 : (x == 0) = false := by simpa using (fun h => q (hc.1 h))
    obtain ⟨z1, z2⟩ := qt_low (m := m) hn0
    have hm := fun v u W h1 h2 => pmake_any m n v u W h1 h2 (by omega) (by omega) hn0
    obtain ⟨p, hp⟩ : ∃ p, (Rat.divInt m n).num = p := ⟨_, rfl⟩
    obtain ⟨r, hr⟩ : ∃ r, (Rat.divInt m n).den = r := ⟨_, rfl⟩
    rw [hp] at hm z1 ⊢
    rw [hr] at hm z2 ⊢
    obtain ⟨s, hs⟩ : ∃ s, e - f = s := ⟨_, rfl⟩
    have hs2 : f - e = -s := by omega
    rw [hs, hs2]
    have w1 : IntKind.i64.wrap (e - f) = s := by rw [hs, IntKind.wrap_i64]; omega
    have w2 : IntKind.i64.wrap (-s) = -s := by rw [IntKind.wrap_i64]; omega
    have zr : zl ((r : Nat) : Int) ≤ 25 := by show len r ≤ 25; omega
    have n1 := fun v W h => anum_any p s v W h (by omega) (by omega)
    have n2 := fun v W h => anum_any ((r : Nat) : Int) (-s) v W h (by omega) (by omega)
    have hc2 : ((r : Nat) : Int) * 2 ^ (-s).toNat = ((r * 2 ^ (-s).toNat : Nat) : Int) := by rw [Int.natCast_mul, cast2]
    rw [hc2] at n2
    obtain ⟨a9, ha9⟩ : ∃ a9, p * 2 ^ s.toNat = a9 := ⟨_, rfl⟩
    obtain ⟨d9, hd9⟩ : ∃ d9, r * 2 ^ (-s).toNat = d9 := ⟨_, rfl⟩
    rw [ha9] at n1 ⊢
    rw [hd9] at n2 ⊢
    have HM := Lib.hid hm
    have N1 := Lib.hid n1
    have N2 := Lib.hid n2
    have hfd : ∀ (x : Bool) (E : Option Addr) (n1 n2 : Nat) (W : World), (Instr.field 24 (.agg #[.bool x, .slice E n1 n2]) 1).run Tryz.prog W = .ok (.slice E n1 n2) W := fun _ _ _ _ _ => by kernel_rfl
    clear hm n1 n2 hp hr hs hs2 z1 z2 zr hc2 ha9 hd9 hc q hx hy hz1 hz2 hn1 hn2 lm ln he hf hn0
    go_enter Tryz.func144, Tryz.ntmps144
    go_wp2_with fail
    have L := (((L0.varD (w.heap.size) (by simp) (ng m) A (zl m) c e).varD (w.heap.size + 1) (by simp) (ng n) B (zl n) d f).varQ (w.heap.size + 2) (by simp) false none none 0 0 0 0)
    obtain ⟨gr, hgr⟩ : ∃ gr, w.heap.size + 1 + 1 = gr := ⟨_, rfl⟩
    have hgr2 : w.heap.size + 2 = gr := hgr
    rw [hgr2] at L
    rw [hgr]
    have hgr3 : w.heap.size + 1 < gr := by omega
    clear hgr hgr2
    have c00 := L.b0.c30
    have f00 := L.b0.fr 0
    have c01 := L.b0.c31
    have f01 := L.b0.fr 1
    have c02 := L.b0.c32
    have f02 := L.b0.fr 2
    have c10 := L.tl.b0.c30
    have c11 := L.tl.b0.c31
    have c12 := L.tl.b0.c32
    have c20 := L.tl.tl.b0.c30
    have c21 := L.tl.tl.b0.c31
    have c22 := L.tl.tl.b0.c32
    (try go_wp2_with fail)
    refine (HS.out _ _ (isD_n (m := m) (e := e) (s := .slice A (zl m) c) (L.getN (by simp)))).mono ?_
    rintro e w1 ⟨rfl, be⟩
    clear c00 f00 c01 f01 c02 f02 c10 c11 c12 c20 c21 c22
    replace L := L.step be
    clear be
    have c00 := L.b0.c30
    have f00 := L.b0.fr 0
    have c01 := L.b0.c31
    have f01 := L.b0.fr 1
    have c02 := L.b0.c32
    have f02 := L.b0.fr 2
    have c10 := L.tl.b0.c30
    have c11 := L.tl.b0.c31
    have c12 := L.tl.b0.c32
    have c20 := L.tl.tl.b0.c30
    have c21 := L.tl.tl.b0.c31
    have c22 := L.tl.tl.b0.c32
    (try go_wp2_with fail)
    refine (HM.out _ _ _ (L.getZ (v := .agg #[.bool (ng m), .slice A (zl m) c]) (by simp)) (L.getZ (v := .agg #[.bool (ng n), .slice B (zl n) d]) (by simp))).mono ?_
    rintro e w2 ⟨vq, rfl, iq, be⟩
    clear c00 f00 c01 f01 c02 f02 c10 c11 c12 c20 c21 c22
    obtain ⟨A8, c8, B8, k8, rfl, iz8, _, in8⟩ := iq.form
    replace L := ((L.step be).z (isZ_nat in8)).z iz8
    clear be iq iz8 in8
    have hl8 := L.b0.lt
    have g8n : gr ≠ w2.heap.size := by omega
    replace L := L.varQ w2.heap.size rfl (ng p) A8 B8 (zl p) c8 (len r) k8
    have c00 := L.b0.c30
    have c01 := L.b0.c31
    have c02 := L.b0.c32
    have c20 := L.tl.tl.b0.c30
    have c21 := L.tl.tl.b0.c31
    have c22 := L.tl.tl.b0.c32
    have c30 := L.tl.tl.tl.b0.c30
    have c31 := L.tl.tl.tl.b0.c31
    have c32 := L.tl.tl.tl.b0.c32
    go_wp2_with fail
    replace L := L.swap.drew
    clear c00 c01 c02 c20 c21 c22 c30 c31 c32
    have c00 := L.b0.c30
    have f00 := L.b0.fr 0
    have c01 := L.b0.c31
    have f01 := L.b0.fr 1
    have c02 := L.b0.c32
    have f02 := L.b0.fr 2
    have c10 := L.tl.b0.c30
    have c11 := L.tl.b0.c31
    have c12 := L.tl.b0.c32
    go_region_held3 (fun w' => w'.cell? ⟨w2.heap.size, 0, none⟩ = some (.bool (ng p)) ∧ w'.cell? ⟨w2.heap.size, 1, none⟩ = some (.slice A8 (zl p) c8) ∧ w'.cell? ⟨w2.heap.size, 2, none⟩ = some (.slice B8 (len r) k8)) (first | (with_reducible exact ⟨L.tl.b0.c30, L.tl.b0.c31, L.tl.b0.c32⟩) | exact ⟨L.tl.b0.c30, L.tl.b0.c31, L.tl.b0.c32⟩ | (have LP := L.putQ (by omega) (by first | (simp; done) | (simp; omega)) (ng a9) A9 B9 (zl a9) c9 (zl (d9 : Int)) k9; exact ⟨LP.tl.b0.c30, LP.tl.b0.c31, LP.tl.b0.c32⟩)) (first | (go_at_call 185; (with_reducible refine (N1.out _ _ ?_ ).mono ?_); (· (refine L.getZ ?_; (repeat (first | (with_reducible exact List.mem_cons_self) | apply List.mem_cons_of_mem)))); rintro e wh ⟨vh, rfl, iz, be⟩; obtain ⟨A9, c9, rfl, in9⟩ := iz.form; replace L := (L.step be).n in9; clear be iz in9; (try (have x00 := L.b0.c30; have x01 := L.b0.c31; have x02 := L.b0.c32; have y00 := L.b0.fr 0; have y01 := L.b0.fr 1; have y02 := L.b0.fr 2))) | (go_at_call 185; (with_reducible refine (N2.out _ _ ?_ ).mono ?_); (· (refine L.getZ ?_; (repeat (first | (with_reducible exact List.mem_cons_self) | apply List.mem_cons_of_mem)))); rintro e wh ⟨vh, rfl, iz, be⟩; obtain ⟨B9, k9, rfl, in9⟩ := iz.form; replace L := (L.step be).n in9; clear be iz in9; (try (have x00 := L.b0.c30; have x01 := L.b0.c31; have x02 := L.b0.c32; have y00 := L.b0.fr 0; have y01 := L.b0.fr 1; have y02 := L.b0.fr 2))))
    clear c00 f00 c01 f01 c02 f02 c10 c11 c12
    go_wp2_with fail
    have LP := L.putQ (by omega) (by first | (simp; done) | (simp; omega)) (ng a9) A9 B9 (zl a9) c9 (zl (d9 : Int)) k9
    have k0 := LP.b0.c30
    have k1 := LP.b0.c31
    have k2 := LP.b0.c32
    unfold put3 at k0 k1 k2
    exact bodyPost_ret (v := .agg #[.bool (ng a9), .slice A9 (zl a9) c9, .slice B9 (zl (d9 : Int)) k9]) (by simp [results, Tryz.results144, go_sem, k0, k1, k2]) rfl ⟨_, rfl, ⟨_, _, rfl, LP.getN (by simp), (show IsN _ _ (d9 : Int).natAbs from LP.getN (by simp))⟩, LP.below⟩
theorem div_ends {a b c d : Rat} (hab : a ≤ b) (hc : 0 < c) (hcd : c ≤ d) : (if a < 0 then a / c else a / d) = min4 (a / c) (a / d) (b / c) (b / d) ∧ (if b < 0 then b / d else b / c) = max4 (a / c) (a / d) (b / c) (b / d) := by
  have hd : 0 < d := rle_lt hc hcd
  have i1 := inv_anti hc hcd
  have i2 := Rat.le_of_lt (inv_pos hc)
  have i3 := Rat.le_of_lt (inv_pos hd)
  simp only [Rat.div_def]
  have b1 := mul_nn hab i2
  have b2 := mul_nn hab i3
  have m4 := min4_le (a * c⁻¹) (a * d⁻¹) (b * c⁻¹) (b * d⁻¹)
  have M4 := le_max4 (a * c⁻¹) (a * d⁻¹) (b * c⁻¹) (b * d⁻¹)
  constructor
  · by_cases h : a < 0
    · rw [if_pos h]
      have a1 := mul_np i1 (Rat.le_of_lt h)
      rw [Rat.mul_comm, Rat.mul_comm d⁻¹] at a1
      exact Rat.le_antisymm (le_min4 Rat.le_refl a1 b1 (Rat.le_trans a1 b2)) m4.1
    · rw [if_neg h]
      have a1 := mul_nn i1 (Rat.not_lt.1 h)
      rw [Rat.mul_comm, Rat.mul_comm c⁻¹] at a1
      exact Rat.le_antisymm (le_min4 a1 Rat.le_refl (Rat.le_trans a1 b1) b2) m4.2.1
  · by_cases h : b < 0
    · rw [if_pos h]
      have a1 := mul_np i1 (Rat.le_of_lt h)
      rw [Rat.mul_comm, Rat.mul_comm d⁻¹] at a1
      exact Rat.le_antisymm M4.2.2.2 (max4_le (Rat.le_trans b1 a1) b2 a1 Rat.le_refl)
    · rw [if_neg h]
      have a1 := mul_nn i1 (Rat.not_lt.1 h)
      rw [Rat.mul_comm, Rat.mul_comm c⁻¹] at a1
      exact Rat.le_antisymm M4.2.2.1 (max4_le b1 (Rat.le_trans b2 a1) Rat.le_refl a1)
theorem dq_lt0 (m e : Int) : dq m e < 0 ↔ m < 0 := by
  have h := dcm_lt m e 0 0
  rw [dcm_zero, show dq 0 0 = 0 from rfl] at h
  rw [← h]
  unfold cmpI
  (repeat' split) <;> omega
theorem dq_gt0 (m e : Int) : 0 < dq m e ↔ 0 < m := by
  have h := dcm_lt 0 0 m e
  rw [dcm_swap m e 0 0, dcm_zero, show dq 0 0 = 0 from rfl] at h
  rw [← h]
  unfold cmpI
  (repeat' split) <;> omega
theorem quo_lo {m e n f m2 e2 n2 f2 : Int} (h1 : dcm m e n f ≤ 0) (h2 : dcm m2 e2 n2 f2 ≤ 0) (hp : 0 < m2) (hp2 : 0 < n2) : Rat.divInt (qtA m e (if m < 0 then m2 else n2) (if m < 0 then e2 else f2)) (qtD m e (if m < 0 then m2 else n2) (if m < 0 then e2 else f2) : Int) = min4 (dq m e / dq m2 e2) (dq m e / dq n2 f2) (dq n f / dq m2 e2) (dq n f / dq n2 f2) := by
  rw [← (div_ends ((dcm_le _ _ _ _).1 h1) ((dq_gt0 m2 e2).2 hp) ((dcm_le _ _ _ _).1 h2)).1]
  have hs := dq_lt0 m e
  by_cases h : m < 0
  · rw [if_pos h, if_pos h, if_pos (hs.2 h)]
    exact qt_val (by omega)
  · rw [if_neg h, if_neg h, if_neg (fun h9 => h (hs.1 h9))]
    exact qt_val (by omega)
theorem quo_hi {m e n f m2 e2 n2 f2 : Int} (h1 : dcm m e n f ≤ 0) (h2 : dcm m2 e2 n2 f2 ≤ 0) (hp : 0 < m2) (hp2 : 0 < n2) : Rat.divInt (qtA n f (if n < 0 then n2 else m2) (if n < 0 then f2 else e2)) (qtD n f (if n < 0 then n2 else m2) (if n < 0 then f2 else e2) : Int) = max4 (dq m e / dq m2 e2) (dq m e / dq n2 f2) (dq n f / dq m2 e2) (dq n f / dq n2 f2) := by
  rw [← (div_ends ((dcm_le _ _ _ _).1 h1) ((dq_gt0 m2 e2).2 hp) ((dcm_le _ _ _ _).1 h2)).2]
  have hs := dq_lt0 n f
  by_cases h : n < 0
  · rw [if_pos h, if_pos h, if_pos (hs.2 h)]
    exact qt_val (by omega)
  · rw [if_neg h, if_neg h, if_neg (fun h9 => h (hs.1 h9))]
    exact qt_val (by omega)
theorem cmp_signs {m n : Int} (h : cmpI m 0 = cmpI n 0) : (cmpI m 0 < 0 → m < 0 ∧ n < 0) ∧ (¬ cmpI m 0 < 0 → cmpI m 0 ≠ 0 → 0 < m ∧ 0 < n) := by
  unfold cmpI at *
  (repeat' split at *) <;> omega
theorem Lq.name {w0 w : World} {ns : List (Value × Nat)} {zs : List (Value × Int)} {qs : List (Value × Int × Nat)} {bs : List (Nat × TypeId × Array Value)} (h : Lq w0 w ns zs qs bs) : ∃ x, w = x ∧ Lq w0 x ns zs qs bs := ⟨w, rfl, h⟩


set_option maxHeartbeats 100000000 in
theorem adiv_pos (m e n f m2 e2 n2 f2 k : Int) (vx vy : Value) (w : World) (hx : IsI w vx m e n f) (hy : IsI w vy m2 e2 n2 f2) (lm : zl m ≤ 25) (ln : zl n ≤ 25) (lm2 : zl m2 ≤ 25) (ln2 : zl n2 ≤ 25) (he : -3000 ≤ e ∧ e ≤ 3000) (hf : -3000 ≤ f ∧ f ≤ 3000) (he2 : -3000 ≤ e2 ∧ e2 ≤ 3000) (hf2 : -3000 ≤ f2 ∧ f2 ≤ 3000) (hd1 : dcm m e n f ≤ 0) (hd2 : dcm m2 e2 n2 f2 ≤ 0) (hk1 : -9223372036854775808 ≤ k) (hk2 : k ≤ 9223372036854775807) (hT : Tab w) (hw : workB k = true) (hxy : cmpI m2 0 = cmpI n2 0) (hx0 : ¬ cmpI m2 0 = 0) (hx1 : ¬ cmpI m2 0 < 0) :
    Calls Tryz.prog 90 #[vx, vy, .int .i64 k] w (RetEn w (min4 (dq m e / dq m2 e2) (dq m e / dq n2 f2) (dq n f / dq m2 e2) (dq n f / dq n2 f2)) (max4 (dq m e / dq m2 e2) (dq m e / dq n2 f2) (dq n f / dq m2 e2) (dq n f / dq n2 f2)) k) := by
  obtain ⟨A, c, B, d, rfl, hn1, hn2⟩ := hx.form
  obtain ⟨A2, k2, B2, d2, rfl, hn3, hn4⟩ := hy.form
  have L0 := ((((Lq.mk0 w).n hn4).n hn3).n hn2).n hn1
  have S0 := fun v W h => i10sign_any m2 e2 n2 f2 v W h (by omega) (by omega) (by omega) (by omega)
  have HW0 := fun W => aperm_any k W
  unfold RetSg at S0
  rw [hw] at HW0
  have HW := Lib.hid HW0
  clear HW0
  obtain ⟨ps1, ps2⟩ := (cmp_signs hxy).2 hx1 hx0
  obtain ⟨x, hx9⟩ : ∃ x, cmpI m2 0 = x := ⟨_, rfl⟩
  rw [if_pos hxy, decide_eq_true hxy] at S0
  rw [hx9] at S0 hx0 hx1
  have S := Lib.hid S0
  clear S0 hx9 hxy
  have b1 : (x == 0) = false := by simpa using hx0
  obtain ⟨lo, hlo⟩ : ∃ z, min4 (dq m e / dq m2 e2) (dq m e / dq n2 f2) (dq n f / dq m2 e2) (dq n f / dq n2 f2) = z := ⟨_, rfl⟩
  obtain ⟨hi, hhi⟩ : ∃ z, max4 (dq m e / dq m2 e2) (dq m e / dq n2 f2) (dq n f / dq m2 e2) (dq n f / dq n2 f2) = z := ⟨_, rfl⟩
  rw [hlo, hhi]
  have b2 : decide (x < 0) = false := decide_eq_false hx1
  have fl : min4 (dq m e / dq m2 e2) (dq m e / dq n2 f2) (dq n f / dq m2 e2) (dq n f / dq n2 f2) = lo := hlo
  have fh : max4 (dq m e / dq m2 e2) (dq m e / dq n2 f2) (dq n f / dq m2 e2) (dq n f / dq n2 f2) = hi := hhi
  have bs1 := fun v u z W h1 h2 h3 => absign_any m e m2 e2 n2 f2 v u z W h1 h2 h3 (by omega)
  have v1 := quo_lo hd1 hd2 ps1 ps2
  obtain ⟨p1, hp1⟩ : ∃ p, (if m < 0 then m2 else n2) = p := ⟨_, rfl⟩
  obtain ⟨s1, hs1⟩ : ∃ p, (if m < 0 then e2 else f2) = p := ⟨_, rfl⟩
  have pb1 : zl p1 ≤ 25 ∧ (-3000 ≤ s1 ∧ s1 ≤ 3000) ∧ p1 ≠ 0 := by rw [← hp1, ← hs1]; split <;> refine ⟨by omega, by omega, by omega⟩
  rw [hp1, hs1] at bs1 v1
  have qu1 := fun v u W h1 h2 => aquot_any m e p1 s1 v u W h1 h2 (by omega) (by omega) (by omega) (by omega) pb1.2.2
  have qs1 := qt_small (m := m) (e := e) (n := p1) (f := s1) pb1.2.2 (by omega) (by omega) (by omega) (by omega)
  have qp1 := qt_pos m e p1 s1
  obtain ⟨qa1, ha1⟩ : ∃ x, qtA m e p1 s1 = x := ⟨_, rfl⟩
  obtain ⟨qd1, hdd1⟩ : ∃ x, qtD m e p1 s1 = x := ⟨_, rfl⟩
  rw [ha1, hdd1] at v1 qu1 qs1
  rw [hdd1] at qp1
  rw [fl] at v1
  have bs2 := fun v u z W h1 h2 h3 => absign_any n f n2 f2 m2 e2 v u z W h1 h2 h3 (by omega)
  have v2 := quo_hi hd1 hd2 ps1 ps2
  obtain ⟨p2, hp2⟩ : ∃ p, (if n < 0 then n2 else m2) = p := ⟨_, rfl⟩
  obtain ⟨s2, hs2⟩ : ∃ p, (if n < 0 then f2 else e2) = p := ⟨_, rfl⟩
  have pb2 : zl p2 ≤ 25 ∧ (-3000 ≤ s2 ∧ s2 ≤ 3000) ∧ p2 ≠ 0 := by rw [← hp2, ← hs2]; split <;> refine ⟨by omega, by omega, by omega⟩
  rw [hp2, hs2] at bs2 v2
  have qu2 := fun v u W h1 h2 => aquot_any n f p2 s2 v u W h1 h2 (by omega) (by omega) (by omega) (by omega) pb2.2.2
  have qs2 := qt_small (m := n) (e := f) (n := p2) (f := s2) pb2.2.2 (by omega) (by omega) (by omega) (by omega)
  have qp2 := qt_pos n f p2 s2
  obtain ⟨qa2, ha2⟩ : ∃ x, qtA n f p2 s2 = x := ⟨_, rfl⟩
  obtain ⟨qd2, hdd2⟩ : ∃ x, qtD n f p2 s2 = x := ⟨_, rfl⟩
  rw [ha2, hdd2] at v2 qu2 qs2
  rw [hdd2] at qp2
  rw [fh] at v2
  have en := fun v u W h1 h2 (hW : Below w.heap.size w W) => aenclR_any qa1 qd1 qa2 qd2 k v u W h1 h2 qs1.1 qs1.2 qp1 qs2.1 qs2.2 qp2 hw (hT.mono hW)
  rw [v1, v2] at en
  have BS1 := Lib.hid bs1
  have BS2 := Lib.hid bs2
  have QU1 := Lib.hid qu1
  have QU2 := Lib.hid qu2
  have EN := Lib.hid en
  clear bs1 bs2 qu1 qu2 en v1 v2 hp1 hp2 hs1 hs2 pb1 pb2 qs1 qs2 qp1 qp2 ha1 ha2 hdd1 hdd2
  clear fl fh hlo hhi hw hx0 hx1 ps1 ps2 hx hy hn1 hn2 hn3 hn4 lm ln lm2 ln2 he hf he2 hf2 hd1 hd2 hk1 hk2 hT
  go_enter Tryz.func90, Tryz.ntmps90
  go_wp2_with fail
  have L := (((L0.varI (w.heap.size) (by simp) (ng m) A (zl m) c e (ng n) B (zl n) d f).varI (w.heap.size + 1) (by simp) (ng m2) A2 (zl m2) k2 e2 (ng n2) B2 (zl n2) d2 f2).varI (w.heap.size + 2) (by simp) false none 0 0 0 false none 0 0 0)
  obtain ⟨gr, hgr⟩ : ∃ gr, w.heap.size + 1 + 1 = gr := ⟨_, rfl⟩
  have hgr2 : w.heap.size + 2 = gr := hgr
  rw [hgr2] at L
  rw [hgr]
  have hgr3 : w.heap.size + 1 < gr := by omega
  clear hgr hgr2
  have c00 := L.b0.c60
  have f00 := L.b0.fr 0
  have c01 := L.b0.c61
  have f01 := L.b0.fr 1
  have c02 := L.b0.c62
  have f02 := L.b0.fr 2
  have c03 := L.b0.c63
  have f03 := L.b0.fr 3
  have c04 := L.b0.c64
  have f04 := L.b0.fr 4
  have c05 := L.b0.c65
  have f05 := L.b0.fr 5
  have c10 := L.tl.b0.c60
  have c11 := L.tl.b0.c61
  have c12 := L.tl.b0.c62
  have c13 := L.tl.b0.c63
  have c14 := L.tl.b0.c64
  have c15 := L.tl.b0.c65
  (try go_wp2_with fail)
  refine (S.out _ _ (isI_n (m := m2) (e := e2) (n := n2) (f := f2) (L.getN (v := .slice A2 (zl m2) k2) (x := (m2).natAbs) (by simp)) (L.getN (v := .slice B2 (zl n2) d2) (x := (n2).natAbs) (by simp)))).mono ?_
  rintro e w1 ⟨rfl, be⟩
  clear c00 f00 c01 f01 c02 f02 c03 f03 c04 f04 c05 f05 c10 c11 c12 c13 c14 c15
  replace L := L.step be
  clear be
  have c00 := L.b0.c60
  have f00 := L.b0.fr 0
  have c01 := L.b0.c61
  have f01 := L.b0.fr 1
  have c02 := L.b0.c62
  have f02 := L.b0.fr 2
  have c03 := L.b0.c63
  have f03 := L.b0.fr 3
  have c04 := L.b0.c64
  have f04 := L.b0.fr 4
  have c05 := L.b0.c65
  have f05 := L.b0.fr 5
  (try go_wp2_with fail)
  refine (HW.out _).mono ?_
  rintro e9 w' ⟨rfl, rfl⟩
  (try go_wp2_with fail)
  clear c00 f00 c01 f01 c02 f02 c03 f03 c04 f04 c05 f05
  have Q0 := Lib.hid (fun Z (hZ : Below w1.heap.size w1 Z) => (L.tl.tl.b0.mono hZ).c60)
  have Q1 := Lib.hid (fun Z (hZ : Below w1.heap.size w1 Z) => (L.tl.tl.b0.mono hZ).c61)
  have Q2 := Lib.hid (fun Z (hZ : Below w1.heap.size w1 Z) => (L.tl.tl.b0.mono hZ).c62)
  have Q3 := Lib.hid (fun Z (hZ : Below w1.heap.size w1 Z) => (L.tl.tl.b0.mono hZ).c63)
  have Q4 := Lib.hid (fun Z (hZ : Below w1.heap.size w1 Z) => (L.tl.tl.b0.mono hZ).c64)
  have Q5 := Lib.hid (fun Z (hZ : Below w1.heap.size w1 Z) => (L.tl.tl.b0.mono hZ).c65)
  have Q6 := Lib.hid (fun Z (hZ : Below w1.heap.size w1 Z) => (L.tl.b0.mono hZ).c60)
  have Q7 := Lib.hid (fun Z (hZ : Below w1.heap.size w1 Z) => (L.tl.b0.mono hZ).c61)
  have Q8 := Lib.hid (fun Z (hZ : Below w1.heap.size w1 Z) => (L.tl.b0.mono hZ).c62)
  have Q9 := Lib.hid (fun Z (hZ : Below w1.heap.size w1 Z) => (L.tl.b0.mono hZ).c63)
  have Q10 := Lib.hid (fun Z (hZ : Below w1.heap.size w1 Z) => (L.tl.b0.mono hZ).c64)
  have Q11 := Lib.hid (fun Z (hZ : Below w1.heap.size w1 Z) => (L.tl.b0.mono hZ).c65)
  have hb1 := L.tl.tl.b0.lt
  have hb2 := L.tl.b0.lt
  have D0 : Dq w1 w1 [(.slice A (zl m) c, m.natAbs), (.slice B (zl n) d, n.natAbs), (.slice A2 (zl m2) k2, m2.natAbs), (.slice B2 (zl n2) d2, n2.natAbs)] [] [] [] := ⟨((((Lq.mk0 w1).n (L.getN (v := .slice B2 (zl n2) d2) (x := (n2).natAbs) (by simp))).n (L.getN (v := .slice A2 (zl m2) k2) (x := (m2).natAbs) (by simp))).n (L.getN (v := .slice B (zl n) d) (x := (n).natAbs) (by simp))).n (L.getN (v := .slice A (zl m) c) (x := (m).natAbs) (by simp)), List.nodup_nil, fun p hp => by cases hp⟩
  have D := D0.drew
  have LL := Lib.hid L
  clear L
  obtain ⟨K, hK⟩ : ∃ K, w1.heap.size = K := ⟨_, rfl⟩
  have hz0 : K ≤ w1.heap.size := by omega
  have hc1 : w.heap.size < K := by omega
  have hc2 : w.heap.size + 1 < K := by omega
  have hmd : w1.drew.heap.size = K := hK
  go_cut [10] from 40 to 50 (fun s5 wx => Made1Q w1 qa1 qd1 s5 wx)
  case first =>
    go_region_held3 (fun w' => w'.cell? ⟨w.heap.size, 0, none⟩ = some (.bool (ng m)) ∧ w'.cell? ⟨w.heap.size, 1, none⟩ = some (.slice A (zl m) c) ∧ w'.cell? ⟨w.heap.size, 2, none⟩ = some (.int .i64 e) ∧ w'.cell? ⟨w.heap.size, 3, none⟩ = some (.bool (ng n)) ∧ w'.cell? ⟨w.heap.size, 4, none⟩ = some (.slice B (zl n) d) ∧ w'.cell? ⟨w.heap.size, 5, none⟩ = some (.int .i64 f) ∧ w'.cell? ⟨w.heap.size + 1, 0, none⟩ = some (.bool (ng m2)) ∧ w'.cell? ⟨w.heap.size + 1, 1, none⟩ = some (.slice A2 (zl m2) k2) ∧ w'.cell? ⟨w.heap.size + 1, 2, none⟩ = some (.int .i64 e2) ∧ w'.cell? ⟨w.heap.size + 1, 3, none⟩ = some (.bool (ng n2)) ∧ w'.cell? ⟨w.heap.size + 1, 4, none⟩ = some (.slice B2 (zl n2) d2) ∧ w'.cell? ⟨w.heap.size + 1, 5, none⟩ = some (.int .i64 f2)) (((try dsimp only); refine ⟨?_, ?_, ?_, ?_, ?_, ?_, ?_, ?_, ?_, ?_, ?_, ?_⟩ <;> (repeat (first | (with_reducible exact Q0.out _ D.lq.below) | (with_reducible exact Q0.out _ D0.lq.below) | (with_reducible exact Q1.out _ D.lq.below) | (with_reducible exact Q1.out _ D0.lq.below) | (with_reducible exact Q2.out _ D.lq.below) | (with_reducible exact Q2.out _ D0.lq.below) | (with_reducible exact Q3.out _ D.lq.below) | (with_reducible exact Q3.out _ D0.lq.below) | (with_reducible exact Q4.out _ D.lq.below) | (with_reducible exact Q4.out _ D0.lq.below) | (with_reducible exact Q5.out _ D.lq.below) | (with_reducible exact Q5.out _ D0.lq.below) | (with_reducible exact Q6.out _ D.lq.below) | (with_reducible exact Q6.out _ D0.lq.below) | (with_reducible exact Q7.out _ D.lq.below) | (with_reducible exact Q7.out _ D0.lq.below) | (with_reducible exact Q8.out _ D.lq.below) | (with_reducible exact Q8.out _ D0.lq.below) | (with_reducible exact Q9.out _ D.lq.below) | (with_reducible exact Q9.out _ D0.lq.below) | (with_reducible exact Q10.out _ D.lq.below) | (with_reducible exact Q10.out _ D0.lq.below) | (with_reducible exact Q11.out _ D.lq.below) | (with_reducible exact Q11.out _ D0.lq.below) | (with_reducible refine c_alloc _ ?_) | (with_reducible refine c_drew ?_) | (with_reducible refine c_set ?_ (by assumption) ?_) | omega)))) (first | (go_at_call 145; (with_reducible refine (BS1.out _ _ _ _ ?_ ?_ ?_).mono ?_); (· (first | (with_reducible refine isD_n (D.getN ?_); (repeat (first | (with_reducible exact List.mem_cons_self) | apply List.mem_cons_of_mem))) | (with_reducible refine isD_n ((D.box false none none 0 0 0 0).getN ?_); (repeat (first | (with_reducible exact List.mem_cons_self) | apply List.mem_cons_of_mem))) | (with_reducible refine isD_n ((D0.box false none none 0 0 0 0).drew.getN ?_); (repeat (first | (with_reducible exact List.mem_cons_self) | apply List.mem_cons_of_mem))))); (· (first | (with_reducible refine isD_n (D.getN ?_); (repeat (first | (with_reducible exact List.mem_cons_self) | apply List.mem_cons_of_mem))) | (with_reducible refine isD_n ((D.box false none none 0 0 0 0).getN ?_); (repeat (first | (with_reducible exact List.mem_cons_self) | apply List.mem_cons_of_mem))) | (with_reducible refine isD_n ((D0.box false none none 0 0 0 0).drew.getN ?_); (repeat (first | (with_reducible exact List.mem_cons_self) | apply List.mem_cons_of_mem))))); (· (first | (with_reducible refine isD_n (D.getN ?_); (repeat (first | (with_reducible exact List.mem_cons_self) | apply List.mem_cons_of_mem))) | (with_reducible refine isD_n ((D.box false none none 0 0 0 0).getN ?_); (repeat (first | (with_reducible exact List.mem_cons_self) | apply List.mem_cons_of_mem))) | (with_reducible refine isD_n ((D0.box false none none 0 0 0 0).drew.getN ?_); (repeat (first | (with_reducible exact List.mem_cons_self) | apply List.mem_cons_of_mem))))); rintro e9 wh ⟨vh, rfl, id, be⟩; obtain ⟨A7, c7, rfl, _, in9⟩ := id.form; (first | (replace D := D.step be) | (replace D := (D.boxM hmd false none none 0 0 0 0).step be) | (replace D := (D.box false none none 0 0 0 0).step be)); have hz := be.size; (try simp at hz); replace D := D.n in9; clear id in9; (try (have x00 := D.lq.b0.c30; have x01 := D.lq.b0.c31; have x02 := D.lq.b0.c32; have y00 := D.lq.b0.fr 0; have y01 := D.lq.b0.fr 1; have y02 := D.lq.b0.fr 2)); (try obtain ⟨na, nb, nc, nd, nl⟩ := D.n0)) | (go_at_call 144; (with_reducible refine (QU1.out _ _ _ ?_ ?_).mono ?_); (· (first | (with_reducible refine isD_n (D.getN ?_); (repeat (first | (with_reducible exact List.mem_cons_self) | apply List.mem_cons_of_mem))) | (with_reducible refine isD_n ((D.box false none none 0 0 0 0).getN ?_); (repeat (first | (with_reducible exact List.mem_cons_self) | apply List.mem_cons_of_mem))) | (with_reducible refine isD_n ((D0.box false none none 0 0 0 0).drew.getN ?_); (repeat (first | (with_reducible exact List.mem_cons_self) | apply List.mem_cons_of_mem))))); (· (first | (with_reducible refine isD_n (D.getN ?_); (repeat (first | (with_reducible exact List.mem_cons_self) | apply List.mem_cons_of_mem))) | (with_reducible refine isD_n ((D.box false none none 0 0 0 0).getN ?_); (repeat (first | (with_reducible exact List.mem_cons_self) | apply List.mem_cons_of_mem))) | (with_reducible refine isD_n ((D0.box false none none 0 0 0 0).drew.getN ?_); (repeat (first | (with_reducible exact List.mem_cons_self) | apply List.mem_cons_of_mem))))); rintro e9 wh ⟨vh, rfl, iq, be⟩; obtain ⟨A8, c8, B8, k8, rfl, _, _, _⟩ := iq.form; (first | (replace D := D.step be) | (replace D := (D.boxM hmd false none none 0 0 0 0).step be) | (replace D := (D.box false none none 0 0 0 0).step be)); have hz := be.size; (try simp at hz); replace D := D.q iq; clear iq; (try (have x00 := D.lq.b0.c30; have x01 := D.lq.b0.c31; have x02 := D.lq.b0.c32; have y00 := D.lq.b0.fr 0; have y01 := D.lq.b0.fr 1; have y02 := D.lq.b0.fr 2)); (try obtain ⟨na, nb, nc, nd, nl⟩ := D.n0)))
    all_goals
      go_wp2_with fail
      go_meet
      first
      | ((with_reducible refine made1q_a D ?_) <;> (repeat (first | (with_reducible exact List.mem_cons_self) | apply List.mem_cons_of_mem)))
      | ((with_reducible refine made1q_b D ?_) <;> (repeat (first | (with_reducible exact List.mem_cons_self) | apply List.mem_cons_of_mem)))
  case rest =>
    obtain ⟨gq1, Aq1, cq1, Bq1, kq1, rfl, hg, bw, hb3, iq⟩ := hcut
    have hg4 := LL.out.b0.lt
    have hgq1 : gr < gq1 := by omega
    have hgs1 := hb3.lt
    have L := ((LL.out.step bw).q iq).b hb3
    clear D D0 hmd hz0 hK LL hb3 iq bw hb1 hb2 hc1 hc2 hg hg4 Q0 Q1 Q2 Q3 Q4 Q5 Q6 Q7 Q8 Q9 Q10 Q11
    generalize wc = wd1 at *
    (try go_wp2_with fail)
    replace L := L.swap
    have Q0 := Lib.hid (fun Z (hZ : Below wd1.heap.size wd1 Z) => (L.tl.tl.tl.b0.mono hZ).c60)
    have Q1 := Lib.hid (fun Z (hZ : Below wd1.heap.size wd1 Z) => (L.tl.tl.tl.b0.mono hZ).c61)
    have Q2 := Lib.hid (fun Z (hZ : Below wd1.heap.size wd1 Z) => (L.tl.tl.tl.b0.mono hZ).c62)
    have Q3 := Lib.hid (fun Z (hZ : Below wd1.heap.size wd1 Z) => (L.tl.tl.tl.b0.mono hZ).c63)
    have Q4 := Lib.hid (fun Z (hZ : Below wd1.heap.size wd1 Z) => (L.tl.tl.tl.b0.mono hZ).c64)
    have Q5 := Lib.hid (fun Z (hZ : Below wd1.heap.size wd1 Z) => (L.tl.tl.tl.b0.mono hZ).c65)
    have Q6 := Lib.hid (fun Z (hZ : Below wd1.heap.size wd1 Z) => (L.tl.tl.b0.mono hZ).c60)
    have Q7 := Lib.hid (fun Z (hZ : Below wd1.heap.size wd1 Z) => (L.tl.tl.b0.mono hZ).c61)
    have Q8 := Lib.hid (fun Z (hZ : Below wd1.heap.size wd1 Z) => (L.tl.tl.b0.mono hZ).c62)
    have Q9 := Lib.hid (fun Z (hZ : Below wd1.heap.size wd1 Z) => (L.tl.tl.b0.mono hZ).c63)
    have Q10 := Lib.hid (fun Z (hZ : Below wd1.heap.size wd1 Z) => (L.tl.tl.b0.mono hZ).c64)
    have Q11 := Lib.hid (fun Z (hZ : Below wd1.heap.size wd1 Z) => (L.tl.tl.b0.mono hZ).c65)
    have hb1 := L.tl.tl.tl.b0.lt
    have hb2 := L.tl.tl.b0.lt
    have D0 : Dq wd1 wd1 [(.slice A (zl m) c, m.natAbs), (.slice B (zl n) d, n.natAbs), (.slice A2 (zl m2) k2, m2.natAbs), (.slice B2 (zl n2) d2, n2.natAbs)] [] [] [] := ⟨((((Lq.mk0 wd1).n (L.getN (v := .slice B2 (zl n2) d2) (x := (n2).natAbs) (by simp))).n (L.getN (v := .slice A2 (zl m2) k2) (x := (m2).natAbs) (by simp))).n (L.getN (v := .slice B (zl n) d) (x := (n).natAbs) (by simp))).n (L.getN (v := .slice A (zl m) c) (x := (m).natAbs) (by simp)), List.nodup_nil, fun p hp => by cases hp⟩
    have D := D0.drew
    have LL := Lib.hid L
    clear L
    obtain ⟨K, hK⟩ : ∃ K, wd1.heap.size = K := ⟨_, rfl⟩
    have hz0 : K ≤ wd1.heap.size := by omega
    have hc1 : w.heap.size < K := by omega
    have hc2 : w.heap.size + 1 < K := by omega
    have hmd : wd1.drew.heap.size = K := hK
    go_cut [11] from 50 to 60 (fun s5 wx => Made1Q wd1 qa2 qd2 s5 wx)
    case first =>
      go_region_held3 (fun w' => w'.cell? ⟨w.heap.size, 0, none⟩ = some (.bool (ng m)) ∧ w'.cell? ⟨w.heap.size, 1, none⟩ = some (.slice A (zl m) c) ∧ w'.cell? ⟨w.heap.size, 2, none⟩ = some (.int .i64 e) ∧ w'.cell? ⟨w.heap.size, 3, none⟩ = some (.bool (ng n)) ∧ w'.cell? ⟨w.heap.size, 4, none⟩ = some (.slice B (zl n) d) ∧ w'.cell? ⟨w.heap.size, 5, none⟩ = some (.int .i64 f) ∧ w'.cell? ⟨w.heap.size + 1, 0, none⟩ = some (.bool (ng m2)) ∧ w'.cell? ⟨w.heap.size + 1, 1, none⟩ = some (.slice A2 (zl m2) k2) ∧ w'.cell? ⟨w.heap.size + 1, 2, none⟩ = some (.int .i64 e2) ∧ w'.cell? ⟨w.heap.size + 1, 3, none⟩ = some (.bool (ng n2)) ∧ w'.cell? ⟨w.heap.size + 1, 4, none⟩ = some (.slice B2 (zl n2) d2) ∧ w'.cell? ⟨w.heap.size + 1, 5, none⟩ = some (.int .i64 f2)) (((try dsimp only); refine ⟨?_, ?_, ?_, ?_, ?_, ?_, ?_, ?_, ?_, ?_, ?_, ?_⟩ <;> (repeat (first | (with_reducible exact Q0.out _ D.lq.below) | (with_reducible exact Q0.out _ D0.lq.below) | (with_reducible exact Q1.out _ D.lq.below) | (with_reducible exact Q1.out _ D0.lq.below) | (with_reducible exact Q2.out _ D.lq.below) | (with_reducible exact Q2.out _ D0.lq.below) | (with_reducible exact Q3.out _ D.lq.below) | (with_reducible exact Q3.out _ D0.lq.below) | (with_reducible exact Q4.out _ D.lq.below) | (with_reducible exact Q4.out _ D0.lq.below) | (with_reducible exact Q5.out _ D.lq.below) | (with_reducible exact Q5.out _ D0.lq.below) | (with_reducible exact Q6.out _ D.lq.below) | (with_reducible exact Q6.out _ D0.lq.below) | (with_reducible exact Q7.out _ D.lq.below) | (with_reducible exact Q7.out _ D0.lq.below) | (with_reducible exact Q8.out _ D.lq.below) | (with_reducible exact Q8.out _ D0.lq.below) | (with_reducible exact Q9.out _ D.lq.below) | (with_reducible exact Q9.out _ D0.lq.below) | (with_reducible exact Q10.out _ D.lq.below) | (with_reducible exact Q10.out _ D0.lq.below) | (with_reducible exact Q11.out _ D.lq.below) | (with_reducible exact Q11.out _ D0.lq.below) | (with_reducible refine c_alloc _ ?_) | (with_reducible refine c_drew ?_) | (with_reducible refine c_set ?_ (by assumption) ?_) | omega)))) (first | (go_at_call 145; (with_reducible refine (BS2.out _ _ _ _ ?_ ?_ ?_).mono ?_); (· (first | (with_reducible refine isD_n (D.getN ?_); (repeat (first | (with_reducible exact List.mem_cons_self) | apply List.mem_cons_of_mem))) | (with_reducible refine isD_n ((D.box false none none 0 0 0 0).getN ?_); (repeat (first | (with_reducible exact List.mem_cons_self) | apply List.mem_cons_of_mem))) | (with_reducible refine isD_n ((D0.box false none none 0 0 0 0).drew.getN ?_); (repeat (first | (with_reducible exact List.mem_cons_self) | apply List.mem_cons_of_mem))))); (· (first | (with_reducible refine isD_n (D.getN ?_); (repeat (first | (with_reducible exact List.mem_cons_self) | apply List.mem_cons_of_mem))) | (with_reducible refine isD_n ((D.box false none none 0 0 0 0).getN ?_); (repeat (first | (with_reducible exact List.mem_cons_self) | apply List.mem_cons_of_mem))) | (with_reducible refine isD_n ((D0.box false none none 0 0 0 0).drew.getN ?_); (repeat (first | (with_reducible exact List.mem_cons_self) | apply List.mem_cons_of_mem))))); (· (first | (with_reducible refine isD_n (D.getN ?_); (repeat (first | (with_reducible exact List.mem_cons_self) | apply List.mem_cons_of_mem))) | (with_reducible refine isD_n ((D.box false none none 0 0 0 0).getN ?_); (repeat (first | (with_reducible exact List.mem_cons_self) | apply List.mem_cons_of_mem))) | (with_reducible refine isD_n ((D0.box false none none 0 0 0 0).drew.getN ?_); (repeat (first | (with_reducible exact List.mem_cons_self) | apply List.mem_cons_of_mem))))); rintro e9 wh ⟨vh, rfl, id, be⟩; obtain ⟨A7, c7, rfl, _, in9⟩ := id.form; (first | (replace D := D.step be) | (replace D := (D.boxM hmd false none none 0 0 0 0).step be) | (replace D := (D.box false none none 0 0 0 0).step be)); have hz := be.size; (try simp at hz); replace D := D.n in9; clear id in9; (try (have x00 := D.lq.b0.c30; have x01 := D.lq.b0.c31; have x02 := D.lq.b0.c32; have y00 := D.lq.b0.fr 0; have y01 := D.lq.b0.fr 1; have y02 := D.lq.b0.fr 2)); (try obtain ⟨na, nb, nc, nd, nl⟩ := D.n0)) | (go_at_call 144; (with_reducible refine (QU2.out _ _ _ ?_ ?_).mono ?_); (· (first | (with_reducible refine isD_n (D.getN ?_); (repeat (first | (with_reducible exact List.mem_cons_self) | apply List.mem_cons_of_mem))) | (with_reducible refine isD_n ((D.box false none none 0 0 0 0).getN ?_); (repeat (first | (with_reducible exact List.mem_cons_self) | apply List.mem_cons_of_mem))) | (with_reducible refine isD_n ((D0.box false none none 0 0 0 0).drew.getN ?_); (repeat (first | (with_reducible exact List.mem_cons_self) | apply List.mem_cons_of_mem))))); (· (first | (with_reducible refine isD_n (D.getN ?_); (repeat (first | (with_reducible exact List.mem_cons_self) | apply List.mem_cons_of_mem))) | (with_reducible refine isD_n ((D.box false none none 0 0 0 0).getN ?_); (repeat (first | (with_reducible exact List.mem_cons_self) | apply List.mem_cons_of_mem))) | (with_reducible refine isD_n ((D0.box false none none 0 0 0 0).drew.getN ?_); (repeat (first | (with_reducible exact List.mem_cons_self) | apply List.mem_cons_of_mem))))); rintro e9 wh ⟨vh, rfl, iq, be⟩; obtain ⟨A8, c8, B8, k8, rfl, _, _, _⟩ := iq.form; (first | (replace D := D.step be) | (replace D := (D.boxM hmd false none none 0 0 0 0).step be) | (replace D := (D.box false none none 0 0 0 0).step be)); have hz := be.size; (try simp at hz); replace D := D.q iq; clear iq; (try (have x00 := D.lq.b0.c30; have x01 := D.lq.b0.c31; have x02 := D.lq.b0.c32; have y00 := D.lq.b0.fr 0; have y01 := D.lq.b0.fr 1; have y02 := D.lq.b0.fr 2)); (try obtain ⟨na, nb, nc, nd, nl⟩ := D.n0)))
      all_goals
        go_wp2_with fail
        go_meet
        first
        | ((with_reducible refine made1q_a D ?_) <;> (repeat (first | (with_reducible exact List.mem_cons_self) | apply List.mem_cons_of_mem)))
        | ((with_reducible refine made1q_b D ?_) <;> (repeat (first | (with_reducible exact List.mem_cons_self) | apply List.mem_cons_of_mem)))
    case rest =>
      obtain ⟨gq2, Aq2, cq2, Bq2, kq2, rfl, hg, bw, hb3, iq⟩ := hcut
      have hg4 := LL.out.b0.lt
      have hgq2 : gr < gq2 := by omega
      have hgs2 := hb3.lt
      have L := ((LL.out.step bw).q iq).b hb3
      clear D D0 hmd hz0 hK LL hb3 iq bw hb1 hb2 hc1 hc2 hg hg4 Q0 Q1 Q2 Q3 Q4 Q5 Q6 Q7 Q8 Q9 Q10 Q11
      generalize wc = wd2 at *
      have c00 := L.b0.c30
      have c01 := L.b0.c31
      have c02 := L.b0.c32
      have c20 := L.tl.tl.b0.c30
      have c21 := L.tl.tl.b0.c31
      have c22 := L.tl.tl.b0.c32
      (try go_wp2_with fail)
      refine (EN.out _ _ _ (L.getQ (v := .agg #[.bool (ng qa1), .slice Aq1 (zl qa1) cq1, .slice Bq1 (len qd1) kq1]) (a := qa1) (d := qd1) (by simp)) (L.getQ (v := .agg #[.bool (ng qa2), .slice Aq2 (zl qa2) cq2, .slice Bq2 (len qd2) kq2]) (a := qa2) (d := qd2) (by simp)) L.below).mono ?_
      intro e9 w19 hen
      obtain ⟨v19, er, m9, e9', n9, f9, rfl, ii, be, hback⟩ := hen.form
      obtain ⟨A5, c5, B5, d5, rfl, ia, ib⟩ := ii.form
      replace L := (((L.step be).n ib).n ia).swap
      clear be ii ia ib hen
      have HBK := Lib.hid hback
      clear hback
      clear c00 c01 c02 c20 c21 c22
      have c00 := L.b0.c60
      have f00 := L.b0.fr 0
      have c01 := L.b0.c61
      have f01 := L.b0.fr 1
      have c02 := L.b0.c62
      have f02 := L.b0.fr 2
      have c03 := L.b0.c63
      have f03 := L.b0.fr 3
      have c04 := L.b0.c64
      have f04 := L.b0.fr 4
      have c05 := L.b0.c65
      have f05 := L.b0.fr 5
      go_wp2_with fail
      have LP := L.putI (by omega) (by first | (simp; done) | (simp; omega)) (ng m9) A5 (zl m9) c5 e9' (ng n9) B5 (zl n9) d5 f9
      have k0' := LP.b0.c60
      have k1' := LP.b0.c61
      have k2' := LP.b0.c62
      have k3' := LP.b0.c63
      have k4' := LP.b0.c64
      have k5' := LP.b0.c65
      unfold put6 at k0' k1' k2' k3' k4' k5'
      exact bodyPost_ret (v := .tuple #[.agg #[.bool (ng m9), .slice A5 (zl m9) c5, .int .i64 e9', .bool (ng n9), .slice B5 (zl n9) d5, .int .i64 f9], .int .i64 er]) (by simp [results, Tryz.results90, go_sem, k0', k1', k2', k3', k4', k5']) rfl (HBK.out _ _ _ (isI_n (LP.getN (by simp)) (LP.getN (by simp))) LP.below)

/-- A value stands for the span from a to b. -/
def IsS (w : World) (v : Value) (a b : Int) : Prop := ∃ s t, v = .agg #[.bool (ng a), s, .bool (ng b), t] ∧ IsN w s a.natAbs ∧ IsN w t b.natAbs
theorem IsS.mono {w w' : World} {v : Value} {a b : Int} (h : IsS w v a b) (hb : Below w.heap.size w w') : IsS w' v a b := by
  obtain ⟨s, t, r, hs, ht⟩ := h
  exact ⟨s, t, r, hs.mono hb, ht.mono hb⟩
theorem IsS.form {w : World} {v : Value} {a b : Int} (h : IsS w v a b) : ∃ A c B d, v = .agg #[.bool (ng a), .slice A (zl a) c, .bool (ng b), .slice B (zl b) d] ∧ IsN w (.slice A (zl a) c) a.natAbs ∧ IsN w (.slice B (zl b) d) b.natAbs := by
  obtain ⟨s, t, r, hs, ht⟩ := h
  obtain ⟨A, c, e1⟩ := hs.form
  obtain ⟨B, d, e2⟩ := ht.form
  subst e1 e2
  exact ⟨A, c, B, d, r, hs, ht⟩
section
variable {w0 w : World} {ns : List (Value × Nat)} {zs : List (Value × Int)} {qs : List (Value × Int × Nat)} {bs : List (Nat × TypeId × Array Value)}
end
theorem Var.c40 {w : World} {g : Nat} {ty : TypeId} {x0 x1 x2 x3 : Value} (h : Var w g ty #[x0, x1, x2, x3]) : w.cell? ⟨g, 0, none⟩ = some x0 := h.cell 0
theorem Var.c41 {w : World} {g : Nat} {ty : TypeId} {x0 x1 x2 x3 : Value} (h : Var w g ty #[x0, x1, x2, x3]) : w.cell? ⟨g, 1, none⟩ = some x1 := h.cell 1
theorem Var.c42 {w : World} {g : Nat} {ty : TypeId} {x0 x1 x2 x3 : Value} (h : Var w g ty #[x0, x1, x2, x3]) : w.cell? ⟨g, 2, none⟩ = some x2 := h.cell 2
theorem Var.c43 {w : World} {g : Nat} {ty : TypeId} {x0 x1 x2 x3 : Value} (h : Var w g ty #[x0, x1, x2, x3]) : w.cell? ⟨g, 3, none⟩ = some x3 := h.cell 3
theorem Lq.subx {w0 w : World} {ns : List (Value × Nat)} {zs : List (Value × Int)} {qs : List (Value × Int × Nat)} {bs : List (Nat × TypeId × Array Value)} (h : Lq w0 w ns zs qs bs) {ns' : List (Value × Nat)} {bs' : List (Nat × TypeId × Array Value)} (h1 : ∀ p ∈ ns', p ∈ ns) (h2 : ∀ b ∈ bs', b ∈ bs) : Lq w0 w ns' [] [] bs' :=
  ⟨h.below, fun x hx => h.ns x (h1 x hx), fun _ x => (by cases x), fun _ x => (by cases x), fun x hx => h.bs x (h2 x hx)⟩

def okX (p least : Int) : Bool := decide (least ≤ p) && decide (p ≤ 4096)
set_option maxHeartbeats 1000000 in
theorem xperm_any (p least : Int) (w : World) :
    Calls Tryz.prog 54 #[.int .i64 p, .int .i64 least] w (fun e w' => e = .returned (.bool (okX p least)) ∧ w = w') := by
  unfold okX
  by_cases q1 : least ≤ p
  · have b1 : decide (least ≤ p) = true := decide_eq_true q1
    rw [b1, Bool.true_and]
    go_enter Tryz.func54, Tryz.ntmps54
    go_wp2_with fail
    go_ret
    exact ⟨rfl, rfl⟩
  · have b1 : decide (least ≤ p) = false := decide_eq_false q1
    rw [b1, Bool.false_and]
    go_enter Tryz.func54, Tryz.ntmps54
    go_wp2_with fail
    go_ret
    exact ⟨rfl, rfl⟩
set_option maxHeartbeats 8000000 in
theorem xpart_any (Y : Int) (p k : Nat) (vx : Value) (w : World) (hx : IsD w vx (mkM Y (-(p : Int))) (mkE Y (-(p : Int)))) (hY : AbP Y p) (hp : p ≤ 700) (hk : 1 ≤ k) (hk2 : k ≤ 1000000) (hT : Tab w) :
    Calls Tryz.prog 168 #[vx, .int .i64 (k : Int), .int .i64 (p : Int)] w (RetD8 w (mkM (Y / (k : Int)) (-(p : Int))) (mkE (Y / (k : Int)) (-(p : Int)))) := by
  obtain ⟨A, c, rfl, _, hn⟩ := hx.form
  have L0 := (Lq.mk0 w).n hn
  obtain ⟨a1, a2, a3, a4, a5⟩ := np hY (by omega) (show p ≤ 3000 by omega)
  obtain ⟨s1, s2, s3⟩ := np_same a4 (by omega) (by omega)
  have hZ : AbP (Y / (k : Int)) p := Nat.le_trans (Int.natAbs_ediv_le_natAbs _ _) hY
  obtain ⟨b1, b2, b3, b4, b5⟩ := np hZ (by omega) (show p ≤ 3000 by omega)
  obtain ⟨r1, r2, r3⟩ := np_same b4 (by omega) (by omega)
  have hkb : AbP (k : Int) 20 := by
    have e : (2 : Nat) ^ 20 = 1048576 := by decide
    unfold AbP
    rw [e]
    omega
  obtain ⟨k1, _, k3, k4, _, _⟩ := nf hkb (by omega)
  have k2 : zl (mkM (k : Int) 0) ≤ 1 := Nat.le_trans (zl_mk _ _) (Nat.le_trans hkb.zl (by omega))
  have kdv : Dv (mkM (k : Int) 0) (mkE (k : Int) 0) := mk_ok k1
  have k5 : mkE (k : Int) 0 ≤ 100 := by rcases mkE_at k1 hkb.zl with e | e <;> omega
  have g1 := fun x W h (hW : Below w.heap.size w W) => dshift_any (mkM Y (-(p : Int))) (mkE Y (-(p : Int))) 0 x W h (by omega) (by omega) (by omega) (hT.mono hW)
  rw [s1, s2, s3] at g1
  have g2 := fun x W h => i10point_any (mkM Y (-(p : Int))) (mkE Y (-(p : Int))) x W h (by omega) (by omega) a4
  have g3 := fun W (hW : Below w.heap.size w W) => dof_any (k : Int) W (by omega) (by omega) (hT.mono hW)
  have g4 := fun x W h => i10point_any (mkM (k : Int) 0) (mkE (k : Int) 0) x W h (by omega) (by omega) kdv
  obtain ⟨q1, q2, q3⟩ := np_div hY hp hk hk2
  have g5 := fun x y W h j (hW : Below w.heap.size w W) => adiv_pos (mkM Y (-(p : Int))) (mkE Y (-(p : Int))) (mkM Y (-(p : Int))) (mkE Y (-(p : Int))) (mkM (k : Int) 0) (mkE (k : Int) 0) (mkM (k : Int) 0) (mkE (k : Int) 0) (p : Int) x y W h j (by omega) (by omega) (by omega) (by omega) (by omega) (by omega) (by omega) (by omega) (by rw [dcm_self]; omega) (by rw [dcm_self]; omega) (by omega) (by omega) (hT.mono hW) q1 rfl (by rw [q2]; omega) (by rw [q2]; omega)
  simp only [q3] at g5
  have g6 := fun x W h (hW : Below w.heap.size w W) => dshift_any (mkM (Y / (k : Int)) (-(p : Int))) (mkE (Y / (k : Int)) (-(p : Int))) 0 x W h (by omega) (by omega) (by omega) (hT.mono hW)
  rw [r1, r2, r3] at g6
  have w1 : IntKind.i64.wrap ((p : Int) - 4096) = (p : Int) - 4096 := by rw [IntKind.wrap_i64]; omega
  have w2 : max ((p : Int) - 4096) 0 = 0 := by omega
  have w3 : IntKind.i64.wrap (p : Int) = (p : Int) := by rw [IntKind.wrap_i64]; omega
  clear q1 q2 q3 a1 a2 a3 a4 a5 s1 s2 s3 b1 b2 b3 b4 b5 r1 r2 r3 k1 k2 k3 k4 k5 kdv hkb hZ hY hT hx
  generalize mkM (Y / (k : Int)) (-(p : Int)) = Z at *
  generalize mkE (Y / (k : Int)) (-(p : Int)) = Q at *
  generalize upM (dq Y (-(p : Int)) / (k : Rat)) (p : Int) = U at *
  generalize upE (dq Y (-(p : Int)) / (k : Rat)) (p : Int) = V at *
  generalize mkM Y (-(p : Int)) = M at *
  generalize mkE Y (-(p : Int)) = E at *
  generalize mkM (k : Int) 0 = K at *
  generalize mkE (k : Int) 0 = F at *
  have G1 := Lib.hid g1
  have G2 := Lib.hid g2
  have G3 := Lib.hid g3
  have G4 := Lib.hid g4
  have G5 := Lib.hid g5
  have G6 := Lib.hid g6
  clear g1 g2 g3 g4 g5 g6 hk hk2
  go_enter Tryz.func168, Tryz.ntmps168
  have L := ((L0.varD (w.heap.size) (by simp) (ng M) A (zl M) c E).varD (w.heap.size + 1) (by simp) false none 0 0 0)
  have c10 := L.tl.b0.c30
  have c11 := L.tl.b0.c31
  have c12 := L.tl.b0.c32
  (try go_wp2_with fail)
  refine (G1.out _ _ (isD_n (m := M) (e := E) (s := .slice A (zl M) c) (L.getN (by simp))) L.below).mono ?_
  rintro e w1 ⟨v9, rfl, iz, be⟩
  clear c10 c11 c12
  obtain ⟨A1, c1, rfl, _, in9⟩ := iz.form
  replace L := (L.step be).n in9
  clear be iz in9
  have hl9 := L.b0.lt
  replace L := L.varD w1.heap.size rfl (ng M) A1 (zl M) c1 E
  have c00 := L.b0.c30
  have c01 := L.b0.c31
  have c02 := L.b0.c32
  go_wp2_with fail
  clear c00 c01 c02
  obtain ⟨g1, hg1⟩ : ∃ g9, w1.heap.size = g9 := ⟨_, rfl⟩
  rw [hg1] at L hl9 ⊢
  clear hg1
  have hl_g1 := hl9
  clear hl9
  refine (G2.out _ _ (isD_n (m := M) (e := E) (s := .slice A1 (zl M) c1) (L.getN (by simp)))).mono ?_
  rintro e w2 ⟨v9, rfl, ii, be⟩
  obtain ⟨A2, c2, B2, d2, rfl, ia, ib⟩ := ii.form
  replace L := ((L.step be).n ib).n ia
  clear be ii ia ib
  (try go_wp2_with fail)
  refine (G3.out _ L.below).mono ?_
  rintro e w3 ⟨v9, rfl, iz, be⟩
  obtain ⟨A3, c3, rfl, _, in9⟩ := iz.form
  replace L := (L.step be).n in9
  clear be iz in9
  (try go_wp2_with fail)
  refine (G4.out _ _ (isD_n (m := K) (e := F) (s := .slice A3 (zl K) c3) (L.getN (by simp)))).mono ?_
  rintro e w4 ⟨v9, rfl, ii, be⟩
  obtain ⟨A4, c4, B4, d4, rfl, ia, ib⟩ := ii.form
  replace L := ((L.step be).n ib).n ia
  clear be ii ia ib
  (try go_wp2_with fail)
  refine (G5.out _ _ _ (isI_n (m := M) (e := E) (n := M) (f := E) (s := .slice A2 (zl M) c2) (t := .slice B2 (zl M) d2) (L.getN (by simp)) (L.getN (by simp))) (isI_n (m := K) (e := F) (n := K) (f := F) (s := .slice A4 (zl K) c4) (t := .slice B4 (zl K) d4) (L.getN (by simp)) (L.getN (by simp))) L.below).mono ?_
  rintro e w5 ⟨v9, rfl, ii, be⟩
  obtain ⟨A5, c5, B5, d5, rfl, ia, ib⟩ := ii.form
  replace L := ((L.step be).n ib).n ia
  clear be ii ia ib
  have hl9 := L.b0.lt
  replace L := L.varI w5.heap.size rfl (ng Z) A5 (zl Z) c5 Q (ng U) B5 (zl U) d5 V
  have c00 := L.b0.c60
  have c01 := L.b0.c61
  have c02 := L.b0.c62
  have c03 := L.b0.c63
  have c04 := L.b0.c64
  have c05 := L.b0.c65
  go_wp2_with fail
  clear c00 c01 c02 c03 c04 c05
  obtain ⟨g2, hg2⟩ : ∃ g9, w5.heap.size = g9 := ⟨_, rfl⟩
  rw [hg2] at L hl9 ⊢
  clear hg2
  have hl_g2 := hl9
  clear hl9
  refine (G6.out _ _ (isD_n (m := Z) (e := Q) (s := .slice A5 (zl Z) c5) (L.getN (by simp))) L.below).mono ?_
  rintro e w6 ⟨v9, rfl, iz, be⟩
  obtain ⟨A6, c6, rfl, _, in9⟩ := iz.form
  replace L := (L.step be).n in9
  clear be iz in9
  have hl9 := L.b0.lt
  have L9 := L.subx (ns' := [(.slice A6 (zl Z) c6, Z.natAbs)]) (bs' := [(w.heap.size + 1, 26, #[.bool false, .slice none 0 0, .int .i64 0])]) (by simp) (by simp)
  clear L
  have L := L9
  clear L9
  have n1 : w.heap.size + 1 ≠ w6.heap.size := by omega
  have c00 := L.b0.c30
  have f00 := L.b0.fr 0
  have c01 := L.b0.c31
  have f01 := L.b0.fr 1
  have c02 := L.b0.c32
  have f02 := L.b0.fr 2
  have LN := L.varD w6.heap.size rfl (ng Z) A6 (zl Z) c6 Q
  have v0 := LN.b0.c30
  have v1 := LN.b0.c31
  have v2 := LN.b0.c32
  have v3 := LN.tl.b0.c30
  have v4 := LN.tl.b0.c31
  have v5 := LN.tl.b0.c32
  have v6 := LN.tl.b0.fr 0
  have v7 := LN.tl.b0.fr 1
  have v8 := LN.tl.b0.fr 2
  go_wp2_with fail
  clear c00 f00 c01 f01 c02 f02
  clear v0 v1 v2 v3 v4 v5 v6 v7 v8
  clear L
  have L := LN.swap
  clear LN
  have LP := L.putD (by omega) (by first | (simp; done) | (simp; omega)) (ng Z) A6 (zl Z) c6 (Q)
  have k0 := LP.b0.c30
  have k1 := LP.b0.c31
  have k2 := LP.b0.c32
  unfold put3 at k0 k1 k2
  exact bodyPost_ret (v := .agg #[.bool (ng Z), .slice A6 (zl Z) c6, .int .i64 (Q)]) (by simp [results, Tryz.results168, go_sem, k0, k1, k2]) rfl ⟨_, rfl, isD_n (LP.getN (by simp)), LP.below⟩
theorem plainG (b : Bool) (A : Option Addr) (n c : Nat) (e p : Int) : Plain #[.bool b, .slice A n c, .int .i64 e, .int .i64 p] := fun j x => by
  match j with
  | 0 => simp
  | 1 => simp
  | 2 => simp
  | 3 => simp
  | j + 4 => simp
theorem Lq.varG {w0 w : World} {ns : List (Value × Nat)} {zs : List (Value × Int)} {qs : List (Value × Int × Nat)} {bs : List (Nat × TypeId × Array Value)} (h : Lq w0 w ns zs qs bs) (g : Nat) (hg : g = w.heap.size) (b : Bool) (A : Option Addr) (n c : Nat) (e p : Int) : Lq w0 (w.alloc (.cells #[.bool b, .slice A n c, .int .i64 e, .int .i64 p] 120)) ns zs qs ((g, 120, #[.bool b, .slice A n c, .int .i64 e, .int .i64 p]) :: bs) := h.var g hg _ _ (plainG _ _ _ _ _ _)

set_option maxHeartbeats 8000000 in
theorem xnext_any (X T : Int) (p k : Nat) (A : Option Addr) (c : Nat) (vt : Value) (w : World) (hx : IsN w (.slice A (zl (mkM X (-(p : Int)))) c) (mkM X (-(p : Int))).natAbs) (ht : IsD w vt (mkM T (-(p : Int))) (mkE T (-(p : Int)))) (hX : AbP X p) (hTa : AbP T p) (hTX : AbP (T * X / 2 ^ p) p) (hp : p ≤ 700) (hk : 1 ≤ k) (hk2 : k ≤ 1000000) (hT : Tab w) :
    Calls Tryz.prog 111 #[.agg #[.bool (ng (mkM X (-(p : Int)))), .slice A (zl (mkM X (-(p : Int)))) c, .int .i64 (mkE X (-(p : Int))), .int .i64 (p : Int)], vt, .int .i64 (k : Int)] w (RetD8 w (mkM (pwT X p k T) (-(p : Int))) (mkE (pwT X p k T) (-(p : Int)))) := by
  obtain ⟨A2, c2, rfl, _, hn⟩ := ht.form
  have L0 := ((Lq.mk0 w).n hn).n hx
  unfold pwT
  obtain ⟨M4, hM4⟩ : ∃ z, mkM (mkM T (-(p : Int)) * mkM X (-(p : Int))) (mkE T (-(p : Int)) + mkE X (-(p : Int))) = z := ⟨_, rfl⟩
  obtain ⟨E4, hE4⟩ : ∃ z, mkE (mkM T (-(p : Int)) * mkM X (-(p : Int))) (mkE T (-(p : Int)) + mkE X (-(p : Int))) = z := ⟨_, rfl⟩
  obtain ⟨a1, a2, a3, a4, a5⟩ := np hTa (by omega) (show p ≤ 3000 by omega)
  obtain ⟨b1, b2, b3, b4, b5⟩ := np hX (by omega) (show p ≤ 3000 by omega)
  obtain ⟨m1, m2, m3, m4, m5, m6⟩ := np_mul hTa hX (by omega) (by omega) (show p ≤ 1400 by omega) M4 E4 hM4 hE4
  have g1 := fun x y W h j (hW : Below w.heap.size w W) => dmul_any (mkM T (-(p : Int))) (mkE T (-(p : Int))) (mkM X (-(p : Int))) (mkE X (-(p : Int))) x y W h j (by omega) (by omega) (by omega) (by omega) (hT.mono hW)
  rw [hM4, hE4, m1] at g1
  have g2 := fun x W h (hW : Below w.heap.size w W) => gfloor_any M4 E4 (p : Int) x W h (by omega) (by omega) (by omega) (by omega) (hT.mono hW)
  rw [m4, m5, m6] at g2
  have g3 := fun x W h (hW : Below w.heap.size w W) => xpart_any (T * X / 2 ^ p) p k x W h hTX hp hk hk2 (hT.mono hW)
  clear a1 a2 a3 a4 a5 b1 b2 b3 b4 b5 m1 m2 m3 m4 m5 m6 hM4 hE4 hX hTa hTX hp hk hk2 ht hx hn hT
  generalize mkM (T * X / 2 ^ p / (k : Int)) (-(p : Int)) = Z at *
  generalize mkE (T * X / 2 ^ p / (k : Int)) (-(p : Int)) = Q at *
  generalize mkM (T * X / 2 ^ p) (-(p : Int)) = Mf at *
  generalize mkE (T * X / 2 ^ p) (-(p : Int)) = Ef at *
  generalize mkM X (-(p : Int)) = Mx at *
  generalize mkE X (-(p : Int)) = Ex at *
  generalize mkM T (-(p : Int)) = M at *
  generalize mkE T (-(p : Int)) = E at *
  have G1 := Lib.hid g1
  have G2 := Lib.hid g2
  have G3 := Lib.hid g3
  clear g1 g2 g3
  go_enter Tryz.func111, Tryz.ntmps111
  have L := (((L0.varG (w.heap.size) (by simp) (ng Mx) A (zl Mx) c Ex (p : Int)).varD (w.heap.size + 1) (by simp) (ng M) A2 (zl M) c2 E).varD (w.heap.size + 2) (by simp) false none 0 0 0)
  have c10 := L.tl.b0.c30
  have c11 := L.tl.b0.c31
  have c12 := L.tl.b0.c32
  have c20 := L.tl.tl.b0.c40
  have c21 := L.tl.tl.b0.c41
  have c22 := L.tl.tl.b0.c42
  have c23 := L.tl.tl.b0.c43
  (try go_wp2_with fail)
  refine (G1.out _ _ _ (isD_n (m := M) (e := E) (s := .slice A2 (zl M) c2) (L.getN (by simp))) (isD_n (m := Mx) (e := Ex) (s := .slice A (zl Mx) c) (L.getN (by simp))) L.below).mono ?_
  rintro e w1 ⟨v9, rfl, iz, be⟩
  clear c10 c11 c12 c20 c21 c22 c23
  obtain ⟨A4, c4, rfl, _, in9⟩ := iz.form
  replace L := (L.step be).n in9
  clear be iz in9
  have hl9 := L.b0.lt
  replace L := L.varD w1.heap.size rfl (ng M4) A4 (zl M4) c4 E4
  have c00 := L.b0.c30
  have c01 := L.b0.c31
  have c02 := L.b0.c32
  have c30 := L.tl.tl.tl.b0.c40
  have c31 := L.tl.tl.tl.b0.c41
  have c32 := L.tl.tl.tl.b0.c42
  have c33 := L.tl.tl.tl.b0.c43
  go_wp2_with fail
  clear c00 c01 c02 c30 c31 c32 c33
  obtain ⟨g1, hg1⟩ : ∃ g9, w1.heap.size = g9 := ⟨_, rfl⟩
  rw [hg1] at L hl9 ⊢
  clear hg1
  have hl_g1 := hl9
  clear hl9
  refine (G2.out _ _ (isD_n (m := M4) (e := E4) (s := .slice A4 (zl M4) c4) (L.getN (by simp))) L.below).mono ?_
  rintro e w2 ⟨v9, rfl, iz, be⟩
  obtain ⟨A5, c5, rfl, _, in9⟩ := iz.form
  replace L := (L.step be).n in9
  clear be iz in9
  have c00 := L.b0.c30
  have f00 := L.b0.fr 0
  have c01 := L.b0.c31
  have f01 := L.b0.fr 1
  have c02 := L.b0.c32
  have f02 := L.b0.fr 2
  have c30 := L.tl.tl.tl.b0.c40
  have c31 := L.tl.tl.tl.b0.c41
  have c32 := L.tl.tl.tl.b0.c42
  have c33 := L.tl.tl.tl.b0.c43
  have P := L.putD (by omega) (by first | (simp; done) | (simp; omega)) (ng Mf) A5 (zl Mf) c5 Ef
  have p0 := P.b0.c30
  have p1 := P.b0.c31
  have p2 := P.b0.c32
  have p3 := P.tl.tl.tl.b0.c43
  unfold put3 at p0 p1 p2 p3 P
  go_wp2_with fail
  replace L := P
  clear P p0 p1 p2 p3
  clear c00 f00 c01 f01 c02 f02 c30 c31 c32 c33
  refine (G3.out _ _ (isD_n (m := Mf) (e := Ef) (s := .slice A5 (zl Mf) c5) (L.getN (by simp))) L.below).mono ?_
  rintro e w3 ⟨v9, rfl, iz, be⟩
  obtain ⟨A6, c6, rfl, _, in9⟩ := iz.form
  replace L := (L.step be).n in9
  clear be iz in9
  have L9 := L.subx (ns' := [(.slice A6 (zl Z) c6, Z.natAbs)]) (bs' := [(w.heap.size + 2, 26, #[.bool false, .slice none 0 0, .int .i64 0])]) (by simp) (by simp)
  clear L
  have L := L9
  clear L9
  have c00 := L.b0.c30
  have f00 := L.b0.fr 0
  have c01 := L.b0.c31
  have f01 := L.b0.fr 1
  have c02 := L.b0.c32
  have f02 := L.b0.fr 2
  go_wp2_with fail
  clear c00 f00 c01 f01 c02 f02
  have LP := L.putD (by omega) (by first | (simp; done) | (simp; omega)) (ng Z) A6 (zl Z) c6 (Q)
  have k0 := LP.b0.c30
  have k1 := LP.b0.c31
  have k2 := LP.b0.c32
  unfold put3 at k0 k1 k2
  exact bodyPost_ret (v := .agg #[.bool (ng Z), .slice A6 (zl Z) c6, .int .i64 (Q)]) (by simp [results, Tryz.results111, go_sem, k0, k1, k2]) rfl ⟨_, rfl, isD_n (LP.getN (by simp)), LP.below⟩


end Go.Proofs.YtnnfldkllhdhjaaGreatDoor
