/- Plain mathematics of products, digit by digit: nothing of the program. -/
import Derived.Test.YtajegednakenbaaDoorMath
namespace Go.Proofs.YtajegednakenbaaDoor

/-- What the first i digits of b, times m, add to those of t: the digits s, and what is carried. -/
def MulAdd (t b : List Nat) (m : Nat) (s : List Nat) (i c : Nat) : Prop := s.length = i ∧ Small s ∧ c < W32 ∧ val s + W32 ^ i * c = val (t.take i) + val (b.take i) * m
theorem mulAdd_zero (t b : List Nat) (m : Nat) : MulAdd t b m [] 0 0 := ⟨rfl, small_nil, W32_pos, by simp [val_nil]⟩
theorem mul_digits {u m : Nat} (hu : u < 4294967296) (hm : m < 4294967296) : u * m ≤ 18446744065119617025 :=
  Nat.mul_le_mul (show u ≤ 4294967295 by omega) (show m ≤ 4294967295 by omega)
theorem mulAdd_step {t b s : List Nat} {m i c u v p : Nat} (h : MulAdd t b m s i c) (hu : nth b i = u) (hv : nth t i = v) (hp : p = u * m) (hu32 : u < 4294967296) (hv32 : v < 4294967296) (hm : m < 4294967296) :
    MulAdd t b m (s ++ [(c + (p + v)) % W32]) (i + 1) ((c + (p + v)) / W32) := by
  obtain ⟨h1, h2, h3, h4⟩ := h
  have hb := mul_digits hu32 hm
  refine ⟨by rw [List.length_append, h1]; rfl, small_append h2 (small_one (Nat.mod_lt _ W32_pos)), ?_, ?_⟩
  · rw [← hp] at hb
    unfold W32 at h3 ⊢
    omega
  · rw [carry_step s i _ h1, val_take_succ, val_take_succ, hu, hv, hp, Nat.add_mul, Nat.mul_add, Nat.mul_add, Nat.mul_assoc]
    omega

theorem nth_row {a s t z : List Nat} {off i : Nat} (ha : a.length = off) (hs : s.length = i) (hi : i < t.length) : nth (a ++ s ++ t.drop i ++ z) (off + i) = nth t i := by
  have e : a ++ s ++ t.drop i ++ z = a ++ s ++ [nth t i] ++ (t.drop (i + 1) ++ z) := by
    rw [List.drop_eq_getElem_cons hi, nth_eq, List.getElem?_eq_getElem hi]
    simp only [List.append_assoc, List.cons_append, List.nil_append, Option.getD_some]
  rw [e, nth_mid _ _ _ (by rw [List.length_append, ha, hs])]
theorem set_row {a s t z : List Nat} {off i : Nat} (x : Nat) (ha : a.length = off) (hs : s.length = i) (hi : i < t.length) : (a ++ s ++ t.drop i ++ z).set (off + i) x = a ++ (s ++ [x]) ++ t.drop (i + 1) ++ z := by
  have e : a ++ s ++ t.drop i ++ z = a ++ s ++ [nth t i] ++ (t.drop (i + 1) ++ z) := by
    rw [List.drop_eq_getElem_cons hi, nth_eq, List.getElem?_eq_getElem hi]
    simp only [List.append_assoc, List.cons_append, List.nil_append, Option.getD_some]
  rw [e, set_mid _ _ _ _ (by rw [List.length_append, ha, hs])]
  simp
theorem drop_all {t : List Nat} {n : Nat} (h : t.length = n) : t.drop n = [] := List.drop_eq_nil_of_le (by omega)

/-- A product, row by row. -/
def MulIs (x y i : Nat) (q : List Nat) : Prop := q.length = i + len y ∧ Small q ∧ val q = val ((dig x).take i) * y
theorem mulIs_zero (x y : Nat) : MulIs x y 0 (List.replicate (len y) 0) := ⟨by simp, small_replicate _, by simp [val_replicate, val_nil]⟩
theorem mulIs_step {x y i u cy : Nat} {q s : List Nat} (h : MulIs x y i q) (hu : nth (dig x) i = u) (hs : MulAdd (q.drop i) (dig y) u s (len y) cy) : MulIs x y (i + 1) (q.take i ++ s ++ [cy]) := by
  obtain ⟨h1, h2, h3⟩ := h
  obtain ⟨s1, s2, s3, s4⟩ := hs
  have hl : (q.take i).length = i := by rw [List.length_take]; omega
  have hd : (q.drop i).length = len y := by rw [List.length_drop]; omega
  refine ⟨by simp only [List.length_append, hl, s1, List.length_cons, List.length_nil]; omega, small_append (small_append (small_take h2 i) s2) (small_one s3), ?_⟩
  rw [List.take_of_length_le (Nat.le_of_eq hd), List.take_of_length_le (Nat.le_of_eq (length_dig y)), val_dig] at s4
  have e1 : val (q.take i ++ s ++ [cy]) = val (q.take i) + W32 ^ i * (val s + W32 ^ len y * cy) := by
    rw [List.append_assoc, val_append, hl, val_append, s1, val_cons, val_nil, Nat.mul_zero, Nat.add_zero]
  have e2 := val_split q i
  rw [e1, s4, val_take_succ, hu, Nat.add_mul, ← h3, Nat.mul_add, e2]
  have : W32 ^ i * (y * u) = W32 ^ i * u * y := by ac_rfl
  omega
theorem mulIs_end {x y i : Nat} {q : List Nat} (h : MulIs x y i q) (hi : len x ≤ i) : trim q = dig (x * y) := by
  obtain ⟨h1, h2, h3⟩ := h
  rw [List.take_of_length_le (by rw [length_dig]; exact hi), val_dig] at h3
  rw [← h3, dig_val h2]
theorem mulIs_len {x y i : Nat} {q : List Nat} (h : MulIs x y i q) : (q.take i).length = i ∧ (q.drop i).length = len y := by
  have := h.1
  constructor
  · rw [List.length_take]; omega
  · rw [List.length_drop]; omega

/-- The end of a product with a digit. -/
theorem mulAdd_end {b s : List Nat} {x m c i cy : Nat} {t : List Nat} (h : MulAdd t b m s i cy) (hb : b = dig x) (hi : len x ≤ i) (ht : val (t.take i) = c) : trim (s ++ [cy]) = dig (x * m + c) := by
  subst hb
  obtain ⟨h1, h2, h3, h4⟩ := h
  rw [List.take_of_length_le (l := dig x) (by rw [length_dig]; exact hi), val_dig, ht] at h4
  rw [← dig_val (small_append h2 (small_one h3)), val_append, h1, val_cons, val_nil, Nat.mul_zero, Nat.add_zero, h4, Nat.add_comm]

/-- A product with a digit, and a number that is added at the start. -/
def SmallIs (x m k : Nat) (s : List Nat) (i c : Nat) : Prop := s.length = i ∧ Small s ∧ c < W32 ∧ val s + W32 ^ i * c = val ((dig x).take i) * m + k
theorem smallIs_zero (x m : Nat) {k : Nat} (h : k < W32) : SmallIs x m k [] 0 k := ⟨rfl, small_nil, h, by simp [val_nil]⟩
theorem smallIs_step {x m k i c u p : Nat} {s : List Nat} (h : SmallIs x m k s i c) (hu : nth (dig x) i = u) (hp : p = u * m) (hu32 : u < 4294967296) (hm : m < 4294967296) :
    SmallIs x m k (s ++ [(c + p) % W32]) (i + 1) ((c + p) / W32) := by
  obtain ⟨h1, h2, h3, h4⟩ := h
  have hb := mul_digits hu32 hm
  refine ⟨by rw [List.length_append, h1]; rfl, small_append h2 (small_one (Nat.mod_lt _ W32_pos)), ?_, ?_⟩
  · rw [← hp] at hb
    unfold W32 at h3 ⊢
    omega
  · rw [carry_step s i _ h1, val_take_succ, hu, hp, Nat.add_mul, Nat.mul_add, Nat.mul_assoc]
    omega
theorem smallIs_end {x m k i c : Nat} {s : List Nat} (h : SmallIs x m k s i c) (hi : len x ≤ i) : trim (s ++ [c]) = dig (x * m + k) := by
  obtain ⟨h1, h2, h3, h4⟩ := h
  rw [List.take_of_length_le (by rw [length_dig]; exact hi), val_dig] at h4
  rw [← dig_val (small_append h2 (small_one h3)), val_append, h1, val_cons, val_nil, Nat.mul_zero, Nat.add_zero, h4]

theorem len_small (x m k : Nat) (hm : m < 4294967296) (hk : k < 4294967296) : len (x * m + k) ≤ len x + 1 := by
  apply len_le
  have h1 := lt_pow_len x
  have h2 : (x + 1) * W32 ≤ W32 ^ len x * W32 := Nat.mul_le_mul_right _ h1
  have h3 : x * m ≤ x * 4294967295 := Nat.mul_le_mul_left _ (by omega)
  rw [Nat.pow_succ]
  unfold W32 at h2 ⊢
  omega

/-- A power, from the top down. -/
theorem pow_even (x e : Nat) : x ^ e * x ^ e = x ^ (2 * e) := by rw [← Nat.pow_add]; congr 1; omega
theorem pow_odd (x e : Nat) : x ^ (2 * e) * x = x ^ (2 * e + 1) := (Nat.pow_succ x (2 * e)).symm
theorem len_pow (x : Nat) (e : Nat) : len (x ^ e) ≤ e * len x + 1 := by
  induction e with
  | zero =>
    rw [Nat.pow_zero]
    exact Nat.le_trans (len_le (k := 1) (by unfold W32; omega)) (Nat.le_add_left 1 _)
  | succ e ih =>
    rw [Nat.pow_succ]
    have := len_mul (x ^ e) x
    rw [Nat.add_mul, Nat.one_mul]
    omega

/-- The sum of the numbers of a list. -/
def sumTo (f : Nat → Nat) : Nat → Nat
  | 0 => 0
  | k + 1 => sumTo f k + f k
theorem len_sumTo {f : Nat → Nat} {b : Nat} (n : Nat) (h : ∀ j, j < n → len (f j) ≤ b) : ∀ k, k ≤ n → len (sumTo f k) ≤ b + k := by
  intro k
  induction k with
  | zero => intro _; rw [show sumTo f 0 = 0 from rfl, len_zero]; omega
  | succ k ih =>
    intro hk
    have h1 := ih (by omega)
    have h2 := h k (by omega)
    have h3 := len_add (sumTo f k) (f k)
    rw [show sumTo f (k + 1) = sumTo f k + f k from rfl]
    omega

theorem blen_mul {x y : Nat} (hx : 0 < x) (hy : 0 < y) : blen (x * y) = blen x + blen y ∨ blen (x * y) = blen x + blen y - 1 := by
  have h1 := lt_two_pow_blen x
  have h2 := lt_two_pow_blen y
  have h3 := two_pow_blen_le hx
  have h4 := two_pow_blen_le hy
  have h5 := blen_pos hx
  have h6 := blen_pos hy
  have h7 : x * y < 2 ^ (blen x + blen y) := by
    rw [Nat.pow_add]
    exact Nat.mul_lt_mul_of_le_of_lt (Nat.le_of_lt h1) h2 (Nat.pow_pos (by omega))
  have h8 : 2 ^ (blen x + blen y - 2) ≤ x * y := by
    rw [show blen x + blen y - 2 = blen x - 1 + (blen y - 1) from by omega, Nat.pow_add]
    exact Nat.mul_le_mul h3 h4
  have h9 := blen_le h7
  have h10 : blen x + blen y - 1 ≤ blen (x * y) := by
    rcases Nat.lt_or_ge (blen (x * y)) (blen x + blen y - 1) with h | h
    · have := blen_le_iff.1 (show blen (x * y) ≤ blen x + blen y - 2 by omega)
      omega
    · exact h
  omega

end Go.Proofs.YtajegednakenbaaDoor
