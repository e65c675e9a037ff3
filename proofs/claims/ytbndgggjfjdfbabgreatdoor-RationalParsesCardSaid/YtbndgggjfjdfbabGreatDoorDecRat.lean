/- Decimals of fractions: the text of a number with m digits behind the point; what a text with at most one point stands for; the arithmetic of denominators that divide a power of ten. -/
import Derived.Test.YtbndgggjfjdfbabGreatDoorDecMath
import Derived.Test.YtbndgggjfjdfbabGreatDoorRatMath
namespace Go.Proofs.YtbndgggjfjdfbabGreatDoor
open Go.RowKit
set_option linter.unusedVariables false
set_option linter.unusedSimpArgs false
set_option maxRecDepth 100000

/-- A divisor of a power of a prime. -/
theorem dvd_ppow {p : Nat} (hp : 0 < p) (hpr : ∀ d, d ∣ p → d = 1 ∨ d = p) : ∀ (m d : Nat), d ∣ p ^ m → ∃ u, u ≤ m ∧ d = p ^ u
  | 0, d, h => ⟨0, Nat.le_refl _, by simpa using h⟩
  | m + 1, d, h => by
    by_cases hd : p ∣ d
    · obtain ⟨k, rfl⟩ := hd
      rw [Nat.pow_succ, Nat.mul_comm (p ^ m)] at h
      obtain ⟨u, hu, rfl⟩ := dvd_ppow hp hpr m k (Nat.dvd_of_mul_dvd_mul_left hp h)
      exact ⟨u + 1, by omega, by rw [Nat.pow_succ, Nat.mul_comm]⟩
    · have hc : Nat.Coprime d p := by
        rcases hpr _ (Nat.gcd_dvd_right d p) with h1 | h1
        · exact h1
        · exact absurd (h1 ▸ Nat.gcd_dvd_left d p) hd
      rw [Nat.pow_succ] at h
      obtain ⟨u, hu, e⟩ := dvd_ppow hp hpr m d (Nat.Coprime.dvd_of_dvd_mul_right hc h)
      exact ⟨u, by omega, e⟩
theorem pr2 : ∀ d, d ∣ 2 → d = 1 ∨ d = 2 := fun d h => by
  have := Nat.le_of_dvd (by omega) h
  match d, this with
  | 0, _ => revert h; decide
  | 1, _ => exact .inl rfl
  | 2, _ => exact .inr rfl
theorem pr5 : ∀ d, d ∣ 5 → d = 1 ∨ d = 5 := fun d h => by
  have := Nat.le_of_dvd (by omega) h
  match d, this with
  | 0, _ => revert h; decide
  | 1, _ => exact .inl rfl
  | 2, _ => revert h; decide
  | 3, _ => revert h; decide
  | 4, _ => revert h; decide
  | 5, _ => exact .inr rfl
theorem ten_pow (m : Nat) : 10 ^ m = 2 ^ m * 5 ^ m := by rw [show (10 : Nat) = 2 * 5 from rfl, Nat.mul_pow]
theorem pow_split {p u m : Nat} (h : u ≤ m) : p ^ m = p ^ u * p ^ (m - u) := by rw [← Nat.pow_add, Nat.add_sub_cancel' h]
theorem cop_pow {N p : Nat} (hp : ∀ d, d ∣ p → d = 1 ∨ d = p) (h : N % p ≠ 0) (m : Nat) : Nat.Coprime N (p ^ m) := by
  refine Nat.Coprime.pow_right m ?_
  rcases hp _ (Nat.gcd_dvd_right N p) with h1 | h1
  · exact h1
  · exact absurd (Nat.mod_eq_zero_of_dvd (h1 ▸ Nat.gcd_dvd_left N p)) h
/-- N / 10^m with a last digit that is not zero, in lowest terms: the denominator, and what the numerator becomes when the denominator is made 10^m again. -/
theorem low_of {N m : Nat} (h : m = 0 ∨ N % 10 ≠ 0) : ∃ u f, 10 ^ m / Nat.gcd N (10 ^ m) = 2 ^ u * 5 ^ f ∧ max u f = m ∧ N / Nat.gcd N (10 ^ m) * (10 ^ m / (2 ^ u * 5 ^ f)) = N := by
  have key : ∀ u f, 10 ^ m / Nat.gcd N (10 ^ m) = 2 ^ u * 5 ^ f → N / Nat.gcd N (10 ^ m) * (10 ^ m / (2 ^ u * 5 ^ f)) = N := by
    intro u f e
    rw [← e]
    have hg : 0 < Nat.gcd N (10 ^ m) := Nat.gcd_pos_of_pos_right _ (Nat.pow_pos (by omega))
    have h1 : Nat.gcd N (10 ^ m) ∣ 10 ^ m := Nat.gcd_dvd_right _ _
    rw [Nat.div_div_self h1 (Nat.ne_of_gt (Nat.pow_pos (by omega)))]
    exact Nat.div_mul_cancel (Nat.gcd_dvd_left _ _)
  rcases h with rfl | h
  · refine ⟨0, 0, ?_, rfl, key 0 0 ?_⟩ <;> simp
  · by_cases h2 : N % 2 = 0
    · have h5 : N % 5 ≠ 0 := by omega
      have hc := cop_pow pr5 h5 m
      have hg : Nat.gcd N (10 ^ m) = Nat.gcd N (2 ^ m) := by rw [ten_pow, Nat.Coprime.gcd_mul_right_cancel_right _ hc.symm]
      obtain ⟨v, hv, e⟩ := dvd_ppow (by omega) pr2 m _ (Nat.gcd_dvd_right N (2 ^ m))
      have e1 : 10 ^ m / Nat.gcd N (10 ^ m) = 2 ^ (m - v) * 5 ^ m := by
        rw [hg, e, ten_pow, pow_split hv, Nat.mul_assoc, Nat.mul_div_cancel_left _ (Nat.pow_pos (by omega))]
      exact ⟨m - v, m, e1, by omega, key _ _ e1⟩
    · have hc := cop_pow pr2 h2 m
      have hg : Nat.gcd N (10 ^ m) = Nat.gcd N (5 ^ m) := by rw [ten_pow, Nat.Coprime.gcd_mul_left_cancel_right _ hc.symm]
      obtain ⟨v, hv, e⟩ := dvd_ppow (by omega) pr5 m _ (Nat.gcd_dvd_right N (5 ^ m))
      have e1 : 10 ^ m / Nat.gcd N (10 ^ m) = 2 ^ m * 5 ^ (m - v) := by
        rw [hg, e, ten_pow, pow_split (p := 5) hv, Nat.mul_left_comm, Nat.mul_div_cancel_left _ (Nat.pow_pos (by omega))]
      exact ⟨m, m - v, e1, by omega, key _ _ e1⟩
theorem two_not {a k : Nat} (h : a % 2 ≠ 0) : a * 5 ^ k % 2 ≠ 0 := by
  have h1 : 5 ^ k % 2 = 1 := by rw [Nat.pow_mod]; simp
  rw [Nat.mul_mod, h1]; omega
theorem five_not {a : Nat} (h : a % 5 ≠ 0) : ∀ k, a * 2 ^ k % 5 ≠ 0
  | 0 => by simpa using h
  | k + 1 => by
    have := five_not h k
    rw [Nat.pow_succ, ← Nat.mul_assoc, Nat.mul_mod]
    omega
/-- The other way: the numerator over 10^max(u, f). -/
theorem up_of {a u f : Nat} (h : Nat.gcd a (2 ^ u * 5 ^ f) = 1) : max u f = 0 ∨ (a * (10 ^ max u f / (2 ^ u * 5 ^ f))) % 10 ≠ 0 := by
  have e1 : 10 ^ max u f / (2 ^ u * 5 ^ f) = 2 ^ (max u f - u) * 5 ^ (max u f - f) := by
    rw [ten_pow, pow_split (p := 2) (Nat.le_max_left u f), pow_split (p := 5) (Nat.le_max_right u f), Nat.mul_mul_mul_comm, Nat.mul_div_cancel_left _ (Nat.mul_pos (Nat.pow_pos (by omega)) (Nat.pow_pos (by omega)))]
  rw [e1]
  rcases Nat.lt_or_ge u f with hl | hl
  · right
    have e2 : max u f = f := by omega
    rw [e2, Nat.sub_self, Nat.pow_zero, Nat.mul_one]
    have h5 : a % 5 ≠ 0 := fun h0 => by
      have : 5 ∣ Nat.gcd a (2 ^ u * 5 ^ f) := Nat.dvd_gcd (Nat.dvd_of_mod_eq_zero h0) (Nat.dvd_mul_left_of_dvd (Nat.dvd_trans (by decide) (Nat.pow_dvd_pow 5 (show 1 ≤ f by omega))) _)
      rw [h] at this; omega
    have := five_not h5 (f - u)
    omega
  · rcases Nat.eq_zero_or_pos u with h0 | h0
    · left; omega
    · right
      have e2 : max u f = u := by omega
      rw [e2, Nat.sub_self, Nat.pow_zero, Nat.one_mul]
      have h2 : a % 2 ≠ 0 := fun hz => by
        have : 2 ∣ Nat.gcd a (2 ^ u * 5 ^ f) := Nat.dvd_gcd (Nat.dvd_of_mod_eq_zero hz) (Nat.dvd_mul_right_of_dvd (Nat.dvd_trans (by decide) (Nat.pow_dvd_pow 2 (show 1 ≤ u by omega))) _)
        rw [h] at this; omega
      have := two_not (k := u - f) h2
      omega
theorem ten_div {u f : Nat} : 10 ^ max u f / (2 ^ u * 5 ^ f) = 2 ^ (max u f - u) * 5 ^ (max u f - f) := by
  rw [ten_pow, pow_split (p := 2) (Nat.le_max_left u f), pow_split (p := 5) (Nat.le_max_right u f), Nat.mul_mul_mul_comm, Nat.mul_div_cancel_left _ (Nat.mul_pos (Nat.pow_pos (by omega)) (Nat.pow_pos (by omega)))]
theorem dvd_ten (u f : Nat) : 2 ^ u * 5 ^ f ∣ 10 ^ max u f := by
  rw [ten_pow]
  exact Nat.mul_dvd_mul (Nat.pow_dvd_pow _ (Nat.le_max_left _ _)) (Nat.pow_dvd_pow _ (Nat.le_max_right _ _))

/-- A text with m digits behind the point. -/
def zs48 (k : Nat) : List Nat := List.replicate k 48
def pad (D : List Nat) (m : Nat) : List Nat := zs48 (m + 1 - D.length) ++ D
def pt (D : List Nat) (m : Nat) : List Nat := if m = 0 then D else (pad D m).take ((pad D m).length - m) ++ 46 :: (pad D m).drop ((pad D m).length - m)
def whl (l : List Nat) : List Nat := l.takeWhile (fun c => decide (c ≠ 46))
def frc (l : List Nat) : List Nat := (l.dropWhile (fun c => decide (c ≠ 46))).drop 1
def hasP (l : List Nat) : Bool := decide (46 ∈ l)
/-- What stands behind a point may stand there. -/
def okF (b : List Nat) : Bool := decide (b ≠ []) && (decide (nth b (b.length - 1) ≠ 48) && b.all isD)
def okD (l : List Nat) : Bool := good (whl l) && (!hasP l || okF (frc l))
def errD (l : List Nat) : Int := if 400 < l.length then 7 else if okD l then 0 else 6
def valD (l : List Nat) : Rat := Rat.divInt (num (whl l ++ frc l) : Nat) ((10 ^ (frc l).length : Nat) : Int)
def numD (l : List Nat) : Int := if errD l = 0 then (valD l).num else 0
def denD (l : List Nat) : Nat := if errD l = 0 then (valD l).den else 0
theorem parts_no {l : List Nat} (h : 46 ∉ l) : whl l = l ∧ frc l = [] ∧ hasP l = false := by
  have h1 : ∀ c ∈ l, decide (c ≠ 46) = true := fun c hc => decide_eq_true (fun e => h (e ▸ hc))
  refine ⟨?_, ?_, decide_eq_false h⟩
  · unfold whl
    induction l with
    | nil => rfl
    | cons a t ih => rw [List.takeWhile_cons, if_pos (h1 a (List.mem_cons_self ..)), ih (fun e => h (List.mem_cons_of_mem _ e)) (fun c hc => h1 c (List.mem_cons_of_mem _ hc))]
  · unfold frc
    induction l with
    | nil => rfl
    | cons a t ih => rw [List.dropWhile_cons, if_pos (h1 a (List.mem_cons_self ..)), ih (fun e => h (List.mem_cons_of_mem _ e)) (fun c hc => h1 c (List.mem_cons_of_mem _ hc))]
theorem parts_yes {a b : List Nat} (h : 46 ∉ a) : whl (a ++ 46 :: b) = a ∧ frc (a ++ 46 :: b) = b ∧ hasP (a ++ 46 :: b) = true := by
  refine ⟨?_, ?_, decide_eq_true (by simp)⟩
  · unfold whl
    induction a with
    | nil => rfl
    | cons c t ih => rw [List.cons_append, List.takeWhile_cons, if_pos (show decide (c ≠ 46) = true from decide_eq_true (fun e : c = 46 => h (by rw [e]; exact List.mem_cons_self ..))), ih (fun e => h (List.mem_cons_of_mem _ e))]
  · unfold frc
    induction a with
    | nil => rfl
    | cons c t ih => rw [List.cons_append, List.dropWhile_cons, if_pos (show decide (c ≠ 46) = true from decide_eq_true (fun e : c = 46 => h (by rw [e]; exact List.mem_cons_self ..))), ih (fun e => h (List.mem_cons_of_mem _ e))]
theorem cut_cases (l : List Nat) : 46 ∉ l ∨ ∃ a b, l = a ++ 46 :: b ∧ 46 ∉ a := by
  induction l with
  | nil => exact .inl (by simp)
  | cons c t ih =>
    by_cases hc : c = 46
    · exact .inr ⟨[], t, by rw [hc]; rfl, by simp⟩
    · rcases ih with h | ⟨a, b, rfl, h⟩
      · exact .inl (fun e => (List.mem_cons.1 e).elim (fun e => hc e.symm) h)
      · exact .inr ⟨c :: a, b, rfl, fun e => (List.mem_cons.1 e).elim (fun e => hc e.symm) h⟩
theorem isD_not46 {l : List Nat} (h : l.all isD = true) : 46 ∉ l := fun e => by
  have := List.all_eq_true.1 h 46 e
  revert this; decide
theorem okF_all {b : List Nat} (h : okF b = true) : b ≠ [] ∧ nth b (b.length - 1) ≠ 48 ∧ b.all isD = true := by
  unfold okF at h
  rw [Bool.and_eq_true, Bool.and_eq_true, decide_eq_true_iff, decide_eq_true_iff] at h
  exact h
theorem okF_of {b : List Nat} (h1 : b ≠ []) (h2 : nth b (b.length - 1) ≠ 48) (h3 : b.all isD = true) : okF b = true := by
  unfold okF; rw [decide_eq_true h1, decide_eq_true h2, h3]; rfl
theorem num_zs (k : Nat) : num (zs48 k) = 0 := by
  induction k with
  | zero => rfl
  | succ k ih => unfold zs48 at *; rw [List.replicate_succ', num_snoc, ih]
theorem all_zs (k : Nat) : (zs48 k).all isD = true := List.all_eq_true.2 fun x hx => by rw [List.eq_of_mem_replicate hx]; rfl
theorem zs_length (k : Nat) : (zs48 k).length = k := List.length_replicate
theorem zs_byt (k : Nat) : Byt (zs48 k) := fun x hx => by rw [List.eq_of_mem_replicate hx]; omega
theorem pad_num (x m : Nat) : num (pad (dd x) m) = x := by unfold pad; rw [num_append, num_zs, num_dd, Nat.zero_mul, Nat.zero_add]
theorem pad_all (x m : Nat) : (pad (dd x) m).all isD = true := by unfold pad; rw [List.all_append, all_zs, all_dd]; rfl
theorem pad_length (D : List Nat) (m : Nat) : (pad D m).length = max D.length (m + 1) := by unfold pad; rw [List.length_append, zs_length]; omega
theorem last_num {l : List Nat} (h : l.all isD = true) (h0 : l ≠ []) : nth l (l.length - 1) = 48 + num l % 10 := by
  induction l using snocInd with
  | h0 => exact absurd rfl h0
  | h1 b c _ =>
    rw [List.all_append, Bool.and_eq_true] at h
    have hc : isD c = true := by simpa using h.2
    unfold isD at hc
    rw [decide_eq_true_iff] at hc
    rw [num_snoc, nth_eq]
    simp
    omega
theorem all_sub {l a : List Nat} (h : l.all isD = true) (hs : ∀ x ∈ a, x ∈ l) : a.all isD = true := List.all_eq_true.2 fun x hx => List.all_eq_true.1 h x (hs x hx)
theorem pt_zero (D : List Nat) : pt D 0 = D := if_pos rfl
theorem pt_pos (D : List Nat) {m : Nat} (h : 0 < m) : pt D m = (pad D m).take ((pad D m).length - m) ++ 46 :: (pad D m).drop ((pad D m).length - m) := if_neg (by omega)
theorem pad_short {D : List Nat} {m : Nat} (h : D.length ≤ m) : (pad D m).take ((pad D m).length - m) = [48] := by
  have h1 : (pad D m).length = m + 1 := by rw [pad_length]; omega
  rw [h1, Nat.add_sub_cancel_left]
  unfold pad zs48
  obtain ⟨k, hk⟩ : ∃ k, m + 1 - D.length = k + 1 := ⟨m - D.length, by omega⟩
  rw [hk, List.replicate_succ]
  rfl
theorem pad_long {D : List Nat} {m : Nat} (h : m < D.length) : pad D m = D := by
  unfold pad zs48
  rw [show m + 1 - D.length = 0 by omega]
  rfl
theorem good_lead' {l : List Nat} (h : 1 < l.length) (h2 : nth l 0 = 48) : good l = false := by
  unfold good
  rw [decide_eq_false (show ¬ l = [48] from fun e => by rw [e] at h; simp at h), decide_eq_false (show ¬ nth l 0 ≠ 48 from fun e => e h2), Bool.false_and, Bool.and_false]
  rfl
theorem good_first {l : List Nat} (h : good l = true) (h0 : l ≠ [48]) : nth l 0 ≠ 48 := by
  unfold good at h
  rw [decide_eq_false h0, Bool.false_or, Bool.and_eq_true, Bool.and_eq_true, decide_eq_true_iff, decide_eq_true_iff] at h
  exact h.2.1
theorem strip48 : ∀ b : List Nat, ∃ k c, b = zs48 k ++ c ∧ (c = [] ∨ nth c 0 ≠ 48)
  | [] => ⟨0, [], rfl, .inl rfl⟩
  | x :: t => by
    by_cases hx : x = 48
    · obtain ⟨k, c, e, h⟩ := strip48 t
      exact ⟨k + 1, c, by rw [e, hx]; rfl, h⟩
    · exact ⟨0, x :: t, rfl, .inr (by rw [nth_eq]; exact hx)⟩
theorem pad_eq {b : List Nat} (h : b.all isD = true) (h0 : b ≠ []) (hl : nth b (b.length - 1) ≠ 48) : pad (dd (num b)) b.length = [48] ++ b := by
  obtain ⟨k, c, e, hc⟩ := strip48 b
  have hcn : c ≠ [] := fun e2 => by
    subst e2
    rw [List.append_nil] at e
    have h1 := last_num h h0
    rw [e, num_zs] at h1
    rw [e] at hl
    exact hl h1
  have hc1 := hc.elim (fun e => absurd e hcn) id
  have hca : c.all isD = true := all_sub h (fun x hx => by rw [e]; exact List.mem_append_right _ hx)
  have hnum : num b = num c := by rw [e, num_append, num_zs, Nat.zero_mul, Nat.zero_add]
  obtain ⟨r1, r2⟩ := rd_num hca (fun _ => hc1)
  have hd : dd (num b) = c := by rw [hnum, dd_pos (r2 hcn), r1]
  unfold pad
  rw [hd]
  have hlen : b.length + 1 - c.length = k + 1 := by rw [e, List.length_append, zs_length]; omega
  rw [hlen]
  conv => rhs; rw [e]
  rfl
theorem good_take {D : List Nat} {k : Nat} (h : good D = true) (h0 : 0 < k) (hk : k < D.length) : good (D.take k) = true := by
  have hall := good_all h
  have h48 : nth D 0 ≠ 48 := fun e => by
    rw [good_lead' (by omega) e] at h; cases h
  unfold good
  rw [decide_eq_true (show D.take k ≠ [] from fun e => by have := congrArg List.length e; rw [List.length_take, List.length_nil] at this; omega),
    decide_eq_true (show nth (D.take k) 0 ≠ 48 by rw [nth_take _ h0]; exact h48), all_sub hall (fun x hx => List.mem_of_mem_take hx)]
  simp
/-- The text of N with m digits behind the point is a decimal. -/
theorem pt_ok {N m : Nat} (h : m = 0 ∨ N % 10 ≠ 0) : okD (pt (dd N) m) = true ∧ num (whl (pt (dd N) m) ++ frc (pt (dd N) m)) = N ∧ (frc (pt (dd N) m)).length = m := by
  rcases Nat.eq_zero_or_pos m with rfl | hm
  · rw [pt_zero]
    obtain ⟨e1, e2, e3⟩ := parts_no (isD_not46 (all_dd N))
    unfold okD
    rw [e1, e2, e3, good_dd, List.append_nil, num_dd]
    exact ⟨rfl, rfl, rfl⟩
  · have h10 : N % 10 ≠ 0 := h.elim (fun e => absurd e (by omega)) id
    rw [pt_pos _ hm]
    have hlen := pad_length (dd N) m
    have hall := pad_all N m
    have ha : ((pad (dd N) m).take ((pad (dd N) m).length - m)).all isD = true := all_sub hall (fun x hx => List.mem_of_mem_take hx)
    have hb : ((pad (dd N) m).drop ((pad (dd N) m).length - m)).all isD = true := all_sub hall (fun x hx => List.mem_of_mem_drop hx)
    obtain ⟨e1, e2, e3⟩ := parts_yes (b := (pad (dd N) m).drop ((pad (dd N) m).length - m)) (isD_not46 ha)
    have hl : ((pad (dd N) m).drop ((pad (dd N) m).length - m)).length = m := by rw [List.length_drop]; omega
    refine ⟨?_, ?_, by rw [e2]; exact hl⟩
    · unfold okD
      rw [e1, e2, e3]
      have hg : good ((pad (dd N) m).take ((pad (dd N) m).length - m)) = true := by
        rcases Nat.lt_or_ge m (dd N).length with h1 | h1
        · rw [pad_long h1]; exact good_take (good_dd N) (by omega) (by omega)
        · rw [pad_short h1]; rfl
      rw [hg, okF_of (fun e => by rw [e] at hl; simp at hl; omega) ?_ hb]
      · rfl
      · rw [hl, nth_drop, show (pad (dd N) m).length - m + (m - 1) = (pad (dd N) m).length - 1 by omega,
          last_num hall (fun e => by rw [e] at hlen; simp at hlen; omega), pad_num]
        omega
    · rw [e1, e2, List.take_append_drop, pad_num]
/-- .. and every decimal is the text of its number. -/
theorem pt_self {l : List Nat} (h : okD l = true) : pt (dd (num (whl l ++ frc l))) (frc l).length = l ∧ ((frc l).length = 0 ∨ num (whl l ++ frc l) % 10 ≠ 0) := by
  unfold okD at h
  rw [Bool.and_eq_true] at h
  obtain ⟨hg, hf⟩ := h
  rcases cut_cases l with h | ⟨a, b, rfl, h⟩
  · obtain ⟨e1, e2, e3⟩ := parts_no h
    rw [e1] at hg
    rw [e1, e2, List.append_nil]
    exact ⟨(pt_zero _).trans (dd_num hg), .inl rfl⟩
  · obtain ⟨e1, e2, e3⟩ := parts_yes (b := b) h
    rw [e1] at hg
    rw [e2, e3] at hf
    obtain ⟨b1, b2, b3⟩ := okF_all (by simpa using hf)
    rw [e1, e2]
    have ha := good_all hg
    have han := good_ne hg
    have hab : (a ++ b).all isD = true := by rw [List.all_append, ha, b3]; rfl
    have hpos : 0 < b.length := List.length_pos_iff.2 b1
    have hapos : 0 < a.length := List.length_pos_iff.2 han
    have hN : num (a ++ b) % 10 ≠ 0 := fun e => by
      have h1 := last_num b3 b1
      have h2 : num b % 10 = num (a ++ b) % 10 := by
        rw [num_append]
        obtain ⟨k, hk⟩ : ∃ k, b.length = k + 1 := ⟨b.length - 1, by omega⟩
        have e : num a * 10 ^ b.length = 10 * (num a * 10 ^ k) := by rw [hk, Nat.pow_succ, Nat.mul_comm (10 ^ k) 10, Nat.mul_left_comm]
        rw [e]
        omega
      omega
    refine ⟨?_, .inr hN⟩
    -- the digits padded are a ++ b
    have hpad : pad (dd (num (a ++ b))) b.length = a ++ b := by
      by_cases h0 : a = [48]
      · subst h0
        have hn : num ([48] ++ b) = num b := by rw [num_append]; simp [num]
        rw [hn]
        exact pad_eq b3 b1 b2
      · have h48 : nth a 0 ≠ 48 := good_first hg h0
        have hgab : good (a ++ b) = true := by
          unfold good
          rw [decide_eq_true (show a ++ b ≠ [] by simp [han]), decide_eq_true (show nth (a ++ b) 0 ≠ 48 by rw [nth_eq, List.getElem?_append_left hapos, ← nth_eq]; exact h48), hab]
          simp
        rw [dd_num hgab, pad_long (by rw [List.length_append]; omega)]
    rw [pt_pos _ hpos, hpad, List.length_append, Nat.add_sub_cancel, List.take_left', List.drop_left']
    · rfl
    · rfl

end Go.Proofs.YtbndgggjfjdfbabGreatDoor
