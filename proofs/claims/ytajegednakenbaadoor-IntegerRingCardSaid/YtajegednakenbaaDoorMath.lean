/- Plain mathematics of lists of digits to the base 2^32: nothing of the program. -/
import Derived.Below
namespace Go.Proofs.YtajegednakenbaaDoor

def W32 : Nat := 4294967296
theorem W32_eq : W32 = 4294967296 := rfl
theorem W32_gt : 1 < W32 := by unfold W32; omega
theorem W32_pos : 0 < W32 := by unfold W32; omega

/-- The number of a list of digits. -/
def val : List Nat → Nat
  | [] => 0
  | x :: l => x + W32 * val l

/-- The list without the zeros at its end. -/
def trim : List Nat → List Nat
  | [] => []
  | x :: l => if trim l = [] ∧ x = 0 then [] else x :: trim l

/-- The digits of a number. -/
def dig (x : Nat) : List Nat := if x = 0 then [] else x % W32 :: dig (x / W32)
termination_by x
decreasing_by exact Nat.div_lt_self (by omega) W32_gt

/-- An element; 0 behind the end. (A name of its own: the walk leaves it as it stands.) -/
def nth (l : List Nat) (i : Nat) : Nat := l.getD i 0
theorem nth_eq (l : List Nat) (i : Nat) : nth l i = l[i]?.getD 0 := by unfold nth; rw [List.getD_eq_getElem?_getD]
/-- What a copy leaves: the first n of t, then what stood behind place m. -/
def over (t : List Nat) (n : Nat) (l : List Nat) (m : Nat) : List Nat := t.take n ++ l.drop m
theorem over_full {t l : List Nat} {n m : Nat} (h : l.length ≤ m) : over t n l m = t.take n := by unfold over; rw [List.drop_eq_nil_of_le h, List.append_nil]
theorem nth_of_ge {l : List Nat} {i : Nat} (h : l.length ≤ i) : nth l i = 0 := by rw [nth_eq, List.getElem?_eq_none h]; rfl

def Small (l : List Nat) : Prop := ∀ y ∈ l, y < W32

theorem val_nil : val [] = 0 := rfl
theorem val_cons (x : Nat) (l : List Nat) : val (x :: l) = x + W32 * val l := rfl

theorem dig_zero : dig 0 = [] := by rw [dig]; simp
theorem dig_pos {x : Nat} (h : 0 < x) : dig x = x % W32 :: dig (x / W32) := by
  rw [dig, if_neg (by omega)]

theorem val_dig (x : Nat) : val (dig x) = x := by
  induction x using Nat.strongRecOn with
  | ind x ih =>
    rcases Nat.eq_zero_or_pos x with h | h
    · subst h; rw [dig_zero]; rfl
    · rw [dig_pos h, val_cons, ih _ (Nat.div_lt_self h W32_gt)]
      exact Nat.mod_add_div x W32

theorem small_nil : Small [] := by intro y hy; cases hy
theorem Small.tail {x : Nat} {l : List Nat} (h : Small (x :: l)) : Small l := fun y hy => h y (List.mem_cons_of_mem _ hy)
theorem Small.head {x : Nat} {l : List Nat} (h : Small (x :: l)) : x < W32 := h x (List.mem_cons_self ..)
theorem small_cons {x : Nat} {l : List Nat} (hx : x < W32) (h : Small l) : Small (x :: l) := by
  intro y hy
  rcases List.mem_cons.1 hy with rfl | hy
  · exact hx
  · exact h y hy
theorem small_append {a b : List Nat} (ha : Small a) (hb : Small b) : Small (a ++ b) := by
  intro y hy
  rcases List.mem_append.1 hy with hy | hy
  · exact ha y hy
  · exact hb y hy
theorem small_one {x : Nat} (hx : x < W32) : Small [x] := small_cons hx small_nil
theorem small_take {l : List Nat} (h : Small l) (k : Nat) : Small (l.take k) := fun y hy => h y (List.mem_of_mem_take hy)
theorem small_drop {l : List Nat} (h : Small l) (k : Nat) : Small (l.drop k) := fun y hy => h y (List.mem_of_mem_drop hy)
theorem small_replicate (k : Nat) : Small (List.replicate k 0) := by
  intro y hy
  rw [List.eq_of_mem_replicate hy]
  exact W32_pos
theorem Small.get {l : List Nat} (h : Small l) (i : Nat) : nth l i < W32 := by
  rw [nth_eq]
  rcases Nat.lt_or_ge i l.length with hi | hi
  · rw [List.getElem?_eq_getElem hi]; exact h _ (List.getElem_mem hi)
  · rw [List.getElem?_eq_none hi]; exact W32_pos

theorem small_dig (x : Nat) : Small (dig x) := by
  induction x using Nat.strongRecOn with
  | ind x ih =>
    rcases Nat.eq_zero_or_pos x with h | h
    · subst h; rw [dig_zero]; exact small_nil
    · rw [dig_pos h]
      exact small_cons (Nat.mod_lt _ W32_pos) (ih _ (Nat.div_lt_self h W32_gt))

theorem val_pos_of_trim {l : List Nat} (h : trim l ≠ []) : 0 < val l := by
  induction l with
  | nil => exact absurd rfl h
  | cons x l ih =>
    rw [val_cons]
    unfold trim at h
    by_cases ht : trim l = []
    · by_cases hx : x = 0
      · rw [if_pos ⟨ht, hx⟩] at h; exact absurd rfl h
      · omega
    · have := ih ht
      have := Nat.mul_pos W32_pos this
      omega

theorem dig_val {l : List Nat} (h : Small l) : dig (val l) = trim l := by
  induction l with
  | nil => rw [val_nil, dig_zero]; rfl
  | cons x l ih =>
    have ih' := ih h.tail
    have hx := h.head
    rw [val_cons]
    unfold trim
    by_cases ht : trim l = [] ∧ x = 0
    · rw [if_pos ht]
      obtain ⟨h1, h2⟩ := ht
      rw [h1] at ih'
      have hv : val l = 0 := by rw [← val_dig (val l), ih']; rfl
      rw [hv, h2]; simp [dig_zero]
    · rw [if_neg ht]
      have hp : 0 < x + W32 * val l := by
        rcases Nat.eq_zero_or_pos x with h0 | h0
        · have : trim l ≠ [] := fun h1 => ht ⟨h1, h0⟩
          have := Nat.mul_pos W32_pos (val_pos_of_trim this)
          omega
        · omega
      rw [dig_pos hp, Nat.add_mul_mod_self_left, Nat.mod_eq_of_lt hx, Nat.add_mul_div_left _ _ W32_pos, Nat.div_eq_of_lt hx, Nat.zero_add, ih']

theorem trim_dig (x : Nat) : trim (dig x) = dig x := by rw [← dig_val (small_dig x), val_dig]
theorem dig_inj {x y : Nat} (h : dig x = dig y) : x = y := by rw [← val_dig x, h, val_dig]

theorem val_trim (l : List Nat) : val (trim l) = val l := by
  induction l with
  | nil => rfl
  | cons x l ih =>
    unfold trim
    by_cases ht : trim l = [] ∧ x = 0
    · rw [if_pos ht, val_cons, ← ih, ht.1, ht.2]; simp [val_nil]
    · rw [if_neg ht, val_cons, val_cons, ih]

theorem val_append (a b : List Nat) : val (a ++ b) = val a + W32 ^ a.length * val b := by
  induction a with
  | nil => simp [val_nil]
  | cons x a ih =>
    rw [List.cons_append, val_cons, val_cons, ih, List.length_cons, Nat.pow_succ, Nat.mul_add, Nat.mul_comm (W32 ^ a.length) W32, Nat.mul_assoc, Nat.add_assoc]

theorem val_replicate (k : Nat) : val (List.replicate k 0) = 0 := by
  induction k with
  | zero => rfl
  | succ k ih => rw [List.replicate_succ, val_cons, ih]; simp

theorem val_lt {l : List Nat} (h : Small l) : val l < W32 ^ l.length := by
  induction l with
  | nil => simp [val_nil]
  | cons x l ih =>
    have ih' := ih h.tail
    have hx := h.head
    rw [val_cons, List.length_cons, Nat.pow_succ, Nat.mul_comm]
    have h2 : W32 * (val l + 1) ≤ W32 * W32 ^ l.length := Nat.mul_le_mul_left _ ih'
    rw [Nat.mul_add] at h2
    rw [Nat.mul_comm (W32 ^ l.length) W32, Nat.mul_comm (val l) W32]
    omega

theorem take_succ_nth (l : List Nat) (i : Nat) (h : i < l.length) : l.take (i + 1) = l.take i ++ [nth l i] := by
  rw [List.take_succ_eq_append_getElem h, nth_eq, List.getElem?_eq_getElem h]; rfl

theorem val_take_succ (l : List Nat) (i : Nat) : val (l.take (i + 1)) = val (l.take i) + W32 ^ i * nth l i := by
  rcases Nat.lt_or_ge i l.length with h | h
  · rw [take_succ_nth l i h, val_append, List.length_take, Nat.min_eq_left (by omega), val_cons, val_nil]; simp
  · rw [List.take_of_length_le (by omega), List.take_of_length_le h, nth_of_ge h]; simp

/-- What a search for the last digit finds. -/
theorem trim_of {l : List Nat} {k : Nat} (hk : k ≤ l.length) (hz : ∀ j, k ≤ j → j < l.length → nth l j = 0) (hn : 0 < k → nth l (k - 1) ≠ 0) : trim l = l.take k := by
  simp only [nth] at hz hn
  induction l generalizing k with
  | nil => simp [trim]
  | cons x l ih =>
    unfold trim
    cases k with
    | zero =>
      have h0 : x = 0 := by simpa using hz 0 (Nat.le_refl _) (by simp)
      have ht : trim l = l.take 0 := ih (Nat.zero_le _) (fun j h1 h2 => by simpa using hz (j + 1) (by omega) (by simp; omega)) (by omega)
      rw [if_pos ⟨by simpa using ht, h0⟩]; rfl
    | succ k =>
      have ht : trim l = l.take k := ih (by simpa using hk) (fun j h1 h2 => by simpa using hz (j + 1) (by omega) (by simp; omega)) (fun h => by
        have := hn (by omega)
        rw [show k + 1 - 1 = (k - 1) + 1 from by omega] at this
        simpa using this)
      rw [if_neg, ht]; rfl
      rintro ⟨h1, h2⟩
      have hl : (l.take k).length = 0 := by rw [← ht, h1]; rfl
      rw [List.length_take] at hl
      have hk' : k ≤ l.length := by simpa using hk
      have : k = 0 := by omega
      subst this
      exact hn (by omega) (by simpa using h2)

theorem length_trim_le (l : List Nat) : (trim l).length ≤ l.length := by
  induction l with
  | nil => simp [trim]
  | cons x l ih => unfold trim; split <;> simp; omega

theorem trim_take (l : List Nat) : l.take (trim l).length = trim l := by
  induction l with
  | nil => rfl
  | cons x l ih =>
    unfold trim
    split
    · rfl
    · rw [List.length_cons, List.take_succ_cons, ih]

/-- How many digits a number has. -/
def len (x : Nat) : Nat := (dig x).length

theorem length_dig (x : Nat) : (dig x).length = len x := rfl
theorem len_zero : len 0 = 0 := by unfold len; rw [dig_zero]; rfl
theorem len_val_le {l : List Nat} (h : Small l) : len (val l) ≤ l.length := by unfold len; rw [dig_val h]; exact length_trim_le l
theorem lt_pow_len (x : Nat) : x < W32 ^ len x := by
  have := val_lt (small_dig x)
  rwa [val_dig] at this
theorem len_le {x k : Nat} (h : x < W32 ^ k) : len x ≤ k := by
  induction k generalizing x with
  | zero => have : x = 0 := by simpa using h
            subst this; rw [len_zero]; omega
  | succ k ih =>
    rcases Nat.eq_zero_or_pos x with h0 | h0
    · subst h0; rw [len_zero]; omega
    · have hd : x / W32 < W32 ^ k := by
        rw [Nat.div_lt_iff_lt_mul W32_pos, ← Nat.pow_succ]; exact h
      have := ih hd
      unfold len at *
      rw [dig_pos h0, List.length_cons]; omega
theorem len_le_iff {x k : Nat} : len x ≤ k ↔ x < W32 ^ k := ⟨fun h => Nat.lt_of_lt_of_le (lt_pow_len x) (Nat.pow_le_pow_right W32_pos h), len_le⟩
theorem len_mono {x y : Nat} (h : x ≤ y) : len x ≤ len y := len_le (Nat.lt_of_le_of_lt h (lt_pow_len y))
theorem len_add (x y : Nat) : len (x + y) ≤ max (len x) (len y) + 1 := by
  apply len_le
  have hx := Nat.lt_of_lt_of_le (lt_pow_len x) (Nat.pow_le_pow_right W32_pos (Nat.le_max_left (len x) (len y)))
  have hy := Nat.lt_of_lt_of_le (lt_pow_len y) (Nat.pow_le_pow_right W32_pos (Nat.le_max_right (len x) (len y)))
  rw [Nat.pow_succ, Nat.mul_comm]
  have : 2 * W32 ^ max (len x) (len y) ≤ W32 * W32 ^ max (len x) (len y) := Nat.mul_le_mul_right _ (by unfold W32; omega)
  omega
theorem len_mul (x y : Nat) : len (x * y) ≤ len x + len y := by
  apply len_le
  rw [Nat.pow_add]
  exact Nat.mul_lt_mul_of_le_of_lt (Nat.le_of_lt (lt_pow_len x)) (lt_pow_len y) (Nat.pow_pos W32_pos)
theorem len_sub (x y : Nat) : len (x - y) ≤ len x := len_mono (Nat.sub_le _ _)
theorem len_pos {x : Nat} (h : 0 < x) : 0 < len x := by unfold len; rw [dig_pos h]; simp
theorem len_eq_zero {x : Nat} (h : len x = 0) : x = 0 := by
  rcases Nat.eq_zero_or_pos x with h0 | h0
  · exact h0
  · have := len_pos h0; omega
theorem pow_len_le {x : Nat} (h : 0 < x) : W32 ^ (len x - 1) ≤ x := by
  rcases Nat.lt_or_ge x (W32 ^ (len x - 1)) with h1 | h1
  · have := len_le h1
    have := len_pos h
    omega
  · exact h1

theorem dig_of_len1 {x : Nat} (h : len x = 1) : dig x = [x] := by
  have h0 : 0 < x := by
    rcases Nat.eq_zero_or_pos x with h0 | h0
    · subst h0; rw [len_zero] at h; omega
    · exact h0
  have hl : x < W32 := by
    have := lt_pow_len x
    rw [h] at this; simpa using this
  rw [dig_pos h0, Nat.mod_eq_of_lt hl, Nat.div_eq_of_lt hl, dig_zero]
theorem dig_of_len2 {x : Nat} (h : len x = 2) : dig x = [x % W32, x / W32] ∧ x / W32 < W32 := by
  have h0 : 0 < x := by
    rcases Nat.eq_zero_or_pos x with h0 | h0
    · subst h0; rw [len_zero] at h; omega
    · exact h0
  have h1 : len (x / W32) = 1 := by
    have : (dig x).length = 2 := h
    rw [dig_pos h0, List.length_cons] at this
    unfold len; omega
  have hd := dig_of_len1 h1
  refine ⟨by rw [dig_pos h0, hd], ?_⟩
  have := small_dig (x / W32)
  rw [hd] at this
  exact this.head

theorem nth_dig (x i : Nat) : nth (dig x) i = x / W32 ^ i % W32 := by
  unfold nth
  induction i generalizing x with
  | zero =>
    rcases Nat.eq_zero_or_pos x with h0 | h0
    · subst h0; rw [dig_zero]; simp
    · rw [dig_pos h0]; simp
  | succ i ih =>
    rcases Nat.eq_zero_or_pos x with h0 | h0
    · subst h0; rw [dig_zero]; simp
    · rw [dig_pos h0, List.getD_cons_succ, ih, Nat.div_div_eq_div_mul, Nat.pow_succ, Nat.mul_comm W32]

theorem val_take (l : List Nat) (h : Small l) (i : Nat) : val (l.take i) = val l % W32 ^ i := by
  rcases Nat.lt_or_ge i l.length with hi | hi
  · have e : val l = val (l.take i) + W32 ^ i * val (l.drop i) := by
      have := val_append (l.take i) (l.drop i)
      rwa [List.take_append_drop, List.length_take, Nat.min_eq_left (by omega)] at this
    have hlt := val_lt (small_take h i)
    rw [List.length_take, Nat.min_eq_left (by omega)] at hlt
    rw [e, Nat.add_mul_mod_self_left, Nat.mod_eq_of_lt hlt]
  · rw [List.take_of_length_le hi, Nat.mod_eq_of_lt]
    exact Nat.lt_of_lt_of_le (val_lt h) (Nat.pow_le_pow_right W32_pos hi)
theorem val_drop (l : List Nat) (h : Small l) (i : Nat) : val (l.drop i) = val l / W32 ^ i := by
  rcases Nat.lt_or_ge i l.length with hi | hi
  · have e : val l = val (l.take i) + W32 ^ i * val (l.drop i) := by
      have := val_append (l.take i) (l.drop i)
      rwa [List.take_append_drop, List.length_take, Nat.min_eq_left (by omega)] at this
    have hlt := val_lt (small_take h i)
    rw [List.length_take, Nat.min_eq_left (by omega)] at hlt
    rw [e, Nat.add_mul_div_left _ _ (Nat.pow_pos W32_pos), Nat.div_eq_of_lt hlt, Nat.zero_add]
  · rw [List.drop_eq_nil_of_le hi, Nat.div_eq_of_lt]; rfl
    exact Nat.lt_of_lt_of_le (val_lt h) (Nat.pow_le_pow_right W32_pos hi)

/-- Which of two numbers is greater. -/
def cmpI (a b : Int) : Int := if a < b then -1 else if b < a then 1 else 0
theorem cmpI_lt {a b : Int} (h : a < b) : cmpI a b = -1 := by unfold cmpI; rw [if_pos h]
theorem cmpI_gt {a b : Int} (h : b < a) : cmpI a b = 1 := by unfold cmpI; rw [if_neg (by omega), if_pos h]
theorem cmpI_eq (a : Int) : cmpI a a = 0 := by unfold cmpI; simp
theorem cmpI_zero {a b : Int} (h : cmpI a b = 0) : a = b := by
  rcases Int.lt_trichotomy a b with h1 | h1 | h1
  · rw [cmpI_lt h1] at h; omega
  · exact h1
  · rw [cmpI_gt h1] at h; omega
theorem cmpI_range (a b : Int) : -1 ≤ cmpI a b ∧ cmpI a b ≤ 1 := by unfold cmpI; split <;> (try split) <;> omega
theorem cmpI_neg (a b : Int) : cmpI b a = -cmpI a b := by unfold cmpI; split <;> split <;> (try split) <;> omega

theorem val_split (l : List Nat) (i : Nat) : val l = val (l.take i) + W32 ^ i * val (l.drop i) := by
  rcases Nat.lt_or_ge i l.length with hi | hi
  · have := val_append (l.take i) (l.drop i)
    rwa [List.take_append_drop, List.length_take, Nat.min_eq_left (by omega)] at this
  · rw [List.take_of_length_le hi, List.drop_eq_nil_of_le hi, val_nil, Nat.mul_zero, Nat.add_zero]

theorem drop_eq_of_nth {a b : List Nat} {i : Nat} (hl : a.length = b.length) (h : ∀ j, i ≤ j → nth a j = nth b j) : a.drop i = b.drop i := by
  apply List.ext_getElem?
  intro j
  rw [List.getElem?_drop, List.getElem?_drop]
  have := h (i + j) (by omega)
  rw [nth_eq, nth_eq] at this
  rcases Nat.lt_or_ge (i + j) a.length with h1 | h1
  · rw [List.getElem?_eq_getElem h1, List.getElem?_eq_getElem (by omega)] at this ⊢
    simpa using this
  · rw [List.getElem?_eq_none h1, List.getElem?_eq_none (by omega)]

theorem val_take_lt (l : List Nat) (h : Small l) (i : Nat) : val (l.take i) < W32 ^ i :=
  Nat.lt_of_lt_of_le (val_lt (small_take h i)) (Nat.pow_le_pow_right W32_pos (by rw [List.length_take]; exact Nat.min_le_left _ _))

/-- The highest digit that differs decides. -/
theorem val_lt_of_top {a b : List Nat} {i : Nat} (ha : Small a) (hl : a.length = b.length) (h : ∀ j, i + 1 ≤ j → nth a j = nth b j) (hlt : nth a i < nth b i) : val a < val b := by
  rw [val_split a (i + 1), val_split b (i + 1), drop_eq_of_nth hl h, val_take_succ, val_take_succ]
  have h1 := val_take_lt a ha i
  have h2 : W32 ^ i * (nth a i + 1) ≤ W32 ^ i * nth b i := Nat.mul_le_mul_left _ hlt
  rw [Nat.mul_add] at h2
  omega
theorem eq_of_nth {a b : List Nat} (hl : a.length = b.length) (h : ∀ j, nth a j = nth b j) : a = b := by
  have := drop_eq_of_nth (i := 0) hl (fun j _ => h j)
  simpa using this

/-- One more digit: what does not fit is carried. -/
theorem carry_step (s : List Nat) (i t : Nat) (hl : s.length = i) : val (s ++ [t % W32]) + W32 ^ (i + 1) * (t / W32) = val s + W32 ^ i * t := by
  rw [val_append, hl, val_cons, val_nil, Nat.mul_zero, Nat.add_zero, Nat.pow_succ, Nat.mul_assoc, Nat.add_assoc, ← Nat.mul_add, Nat.mod_add_div]

theorem set_end (s : List Nat) (k x : Nat) {i : Nat} (hl : s.length = i) : (s ++ List.replicate (k + 1) 0).set i x = s ++ [x] ++ List.replicate k 0 := by
  subst hl
  rw [List.replicate_succ, List.set_append_right _ _ (Nat.le_refl _), Nat.sub_self, List.set_cons_zero, List.append_assoc]; rfl

theorem nth_lt_len {x i : Nat} (h : nth (dig x) i ≠ 0) : i < len x := by
  rcases Nat.lt_or_ge i (len x) with h1 | h1
  · exact h1
  · exact absurd (nth_of_ge (by rw [length_dig]; exact h1)) h

/-- An addition, digit by digit. -/
def AddIs (x y : Nat) (s : List Nat) (i c : Nat) : Prop := s.length = i ∧ Small s ∧ val s + W32 ^ i * c = val ((dig x).take i) + val ((dig y).take i)
theorem addIs_zero (x y : Nat) : AddIs x y [] 0 0 := ⟨rfl, small_nil, by simp [val_nil]⟩
theorem addIs_step {x y i c u v : Nat} {s : List Nat} (h : AddIs x y s i c) (hu : nth (dig x) i = u) (hv : nth (dig y) i = v) : AddIs x y (s ++ [(c + u + v) % W32]) (i + 1) ((c + u + v) / W32) := by
  obtain ⟨h1, h2, h3⟩ := h
  refine ⟨by rw [List.length_append, h1]; rfl, small_append h2 (small_one (Nat.mod_lt _ W32_pos)), ?_⟩
  rw [carry_step s i _ h1, val_take_succ, val_take_succ, hu, hv, Nat.mul_add, Nat.mul_add]
  omega
theorem addIs_end {x y i c : Nat} {s : List Nat} (h : AddIs x y s i c) (hx : len x ≤ i) (hy : len y ≤ i) (hc : c < W32) : trim (s ++ [c]) = dig (x + y) := by
  obtain ⟨h1, h2, h3⟩ := h
  rw [List.take_of_length_le (by rw [length_dig]; exact hx), List.take_of_length_le (by rw [length_dig]; exact hy), val_dig, val_dig] at h3
  rw [← h3, ← dig_val (small_append h2 (small_one hc)), val_append, h1, val_cons, val_nil, Nat.mul_zero, Nat.add_zero]

/-- A subtraction, digit by digit. -/
def SubIs (x y : Nat) (s : List Nat) (i c : Nat) : Prop := s.length = i ∧ Small s ∧ val s + val ((dig y).take i) = val ((dig x).take i) + W32 ^ i * c
theorem subIs_zero (x y : Nat) : SubIs x y [] 0 0 := ⟨rfl, small_nil, by simp [val_nil]⟩
theorem subIs_step {x y i c u v d c' : Nat} {s : List Nat} (h : SubIs x y s i c) (hu : nth (dig x) i = u) (hv : nth (dig y) i = v) (hd : d < W32) (he : d + v + c = u + W32 * c') : SubIs x y (s ++ [d]) (i + 1) c' := by
  obtain ⟨h1, h2, h3⟩ := h
  refine ⟨by rw [List.length_append, h1]; rfl, small_append h2 (small_one hd), ?_⟩
  simp only [val_append, h1, val_cons, val_nil, Nat.mul_zero, Nat.add_zero, val_take_succ, hu, hv, Nat.pow_succ, Nat.mul_assoc]
  have h4 : W32 ^ i * (d + v + c) = W32 ^ i * (u + W32 * c') := by rw [he]
  rw [Nat.mul_add, Nat.mul_add, Nat.mul_add] at h4
  omega
theorem subIs_end {x y i c : Nat} {s : List Nat} (h : SubIs x y s i c) (hx : len x ≤ i) (hy : y ≤ x) : trim s = dig (x - y) := by
  obtain ⟨h1, h2, h3⟩ := h
  have hly := len_mono hy
  rw [List.take_of_length_le (l := dig x) (by rw [length_dig]; exact hx), List.take_of_length_le (l := dig y) (by rw [length_dig]; omega), val_dig, val_dig] at h3
  have hlt : val s < W32 ^ i := by rw [← h1]; exact val_lt h2
  have hc : c = 0 := by
    rcases Nat.eq_zero_or_pos c with h0 | h0
    · exact h0
    · have : W32 ^ i * 1 ≤ W32 ^ i * c := Nat.mul_le_mul_left _ h0
      omega
  rw [hc] at h3
  have : x - y = val s := by omega
  rw [this, dig_val h2]

theorem nth_nil (j : Nat) : nth [] j = 0 := nth_of_ge (Nat.zero_le _)
theorem nth_cons_zero (x : Nat) (l : List Nat) : nth (x :: l) 0 = x := rfl
theorem nth_cons_succ (x : Nat) (l : List Nat) (j : Nat) : nth (x :: l) (j + 1) = nth l j := by simp [nth]
theorem val_zero_of_nth {a : List Nat} (h : ∀ j, nth a j = 0) : val a = 0 := by
  induction a with
  | nil => rfl
  | cons x a ih =>
    have h0 := h 0
    rw [nth_cons_zero] at h0
    rw [val_cons, h0, ih (fun j => by have := h (j + 1); rwa [nth_cons_succ] at this), Nat.mul_zero]
theorem val_eq_of_nth {a b : List Nat} (h : ∀ j, nth a j = nth b j) : val a = val b := by
  induction a generalizing b with
  | nil => rw [val_zero_of_nth (a := b) (fun j => by rw [← h j, nth_nil])]; rfl
  | cons x a ih =>
    cases b with
    | nil => rw [val_zero_of_nth (a := x :: a) (fun j => by rw [h j, nth_nil])]; rfl
    | cons y b =>
      have h0 := h 0
      rw [nth_cons_zero, nth_cons_zero] at h0
      rw [val_cons, val_cons, h0, ih (b := b) (fun j => by have := h (j + 1); rwa [nth_cons_succ, nth_cons_succ] at this)]
theorem nth_drop (l : List Nat) (i j : Nat) : nth (l.drop i) j = nth l (i + j) := by rw [nth_eq, nth_eq, List.getElem?_drop]
theorem nth_take (l : List Nat) {i j : Nat} (h : j < i) : nth (l.take i) j = nth l j := by simp [nth_eq, h]
theorem nth_append_left {a b : List Nat} {j : Nat} (h : j < a.length) : nth (a ++ b) j = nth a j := by rw [nth_eq, nth_eq, List.getElem?_append_left h]
/-- The same for lists of any lengths. -/
theorem val_lt_top {a b : List Nat} {i : Nat} (ha : Small a) (h : ∀ j, i + 1 ≤ j → nth a j = nth b j) (hlt : nth a i < nth b i) : val a < val b := by
  have hd : val (a.drop (i + 1)) = val (b.drop (i + 1)) := val_eq_of_nth fun j => by rw [nth_drop, nth_drop]; exact h _ (by omega)
  rw [val_split a (i + 1), val_split b (i + 1), hd, val_take_succ, val_take_succ]
  have h1 := val_take_lt a ha i
  have h2 : W32 ^ i * (nth a i + 1) ≤ W32 ^ i * nth b i := Nat.mul_le_mul_left _ hlt
  rw [Nat.mul_add] at h2
  omega

theorem length_trim {l : List Nat} (h : Small l) : (trim l).length = len (val l) := by rw [← dig_val h]; rfl
theorem trim_short {l : List Nat} {k : Nat} (h : Small l) (hl : l.length = k + 1) (hz : nth l k = 0) : (trim l).length ≤ k := by
  rw [length_trim h]
  apply len_le
  have e := val_take_succ l k
  rw [List.take_of_length_le (by omega), hz, Nat.mul_zero, Nat.add_zero] at e
  rw [e]
  exact val_take_lt l h k
theorem trim_full {l : List Nat} {k : Nat} (hl : l.length = k + 1) (hz : nth l k ≠ 0) : trim l = l := by
  rw [trim_of (k := k + 1) (by omega) (fun j h1 h2 => by omega) (fun _ => hz), List.take_of_length_le (by omega)]

theorem addIs_end2 {x y i c : Nat} {s : List Nat} (h : AddIs x y s i c) (hx : len x < i) (hy : len y < i) : trim s = dig (x + y) := by
  obtain ⟨h1, h2, h3⟩ := h
  rw [List.take_of_length_le (l := dig x) (by rw [length_dig]; omega), List.take_of_length_le (l := dig y) (by rw [length_dig]; omega), val_dig, val_dig] at h3
  have hlt : x + y < W32 ^ i := by
    rw [← len_le_iff]
    have := len_add x y
    omega
  have hc : c = 0 := by
    rcases Nat.eq_zero_or_pos c with h0 | h0
    · exact h0
    · have : W32 ^ i * 1 ≤ W32 ^ i * c := Nat.mul_le_mul_left _ h0
      omega
  rw [hc, Nat.mul_zero, Nat.add_zero] at h3
  rw [← dig_val h2, h3]

theorem W32_pow (q : Nat) : W32 ^ q = 2 ^ (32 * q) := by rw [Nat.pow_mul]; rfl

/-- A shift to the left, digit by digit. -/
def ShlIs (x q l : Nat) (p : List Nat) (j c : Nat) : Prop := p.length = q + j ∧ Small p ∧ c < 2 ^ l ∧ val p + W32 ^ (q + j) * c = W32 ^ q * 2 ^ l * val ((dig x).take j)
theorem shlIs_zero (x q l : Nat) : ShlIs x q l (List.replicate q 0) 0 0 := ⟨by simp, small_replicate q, Nat.pow_pos (by omega), by simp [val_nil, val_replicate]⟩
theorem shlIs_step {x q l j c u : Nat} {p : List Nat} (h : ShlIs x q l p j c) (hu : nth (dig x) j = u) (hu32 : u < W32) : ShlIs x q l (p ++ [(c + 2 ^ l * u) % W32]) (j + 1) ((c + 2 ^ l * u) / W32) := by
  obtain ⟨h1, h2, h3, h4⟩ := h
  refine ⟨by rw [List.length_append, h1]; rfl, small_append h2 (small_one (Nat.mod_lt _ W32_pos)), ?_, ?_⟩
  · rw [Nat.div_lt_iff_lt_mul W32_pos]
    have : 2 ^ l * (u + 1) ≤ 2 ^ l * W32 := Nat.mul_le_mul_left _ hu32
    rw [Nat.mul_add] at this
    omega
  · have h5 := carry_step p (q + j) (c + 2 ^ l * u) h1
    rw [show q + (j + 1) = q + j + 1 from by omega, h5, val_take_succ, hu, Nat.mul_add, Nat.mul_add, ← h4, Nat.pow_add]
    have : W32 ^ q * W32 ^ j * (2 ^ l * u) = W32 ^ q * 2 ^ l * (W32 ^ j * u) := by ac_rfl
    omega
theorem shlIs_end {x q l j c : Nat} {p : List Nat} (h : ShlIs x q l p j c) (hj : len x ≤ j) (hl : l ≤ 32) : trim (p ++ [c]) = dig (x * 2 ^ (32 * q + l)) := by
  obtain ⟨h1, h2, h3, h4⟩ := h
  have hc : c < W32 := Nat.lt_of_lt_of_le h3 (by unfold W32; exact Nat.pow_le_pow_right (n := 2) (by omega) hl)
  rw [List.take_of_length_le (by rw [length_dig]; exact hj), val_dig] at h4
  rw [← dig_val (small_append h2 (small_one hc)), val_append, h1, val_cons, val_nil, Nat.mul_zero, Nat.add_zero, h4, Nat.pow_add, ← W32_pow, Nat.mul_comm]
theorem nth_mid (p r : List Nat) (c : Nat) {i : Nat} (hi : p.length = i) : nth (p ++ [c] ++ r) i = c := by
  subst hi
  rw [nth_eq, List.append_assoc, List.getElem?_append_right (Nat.le_refl _)]
  simp
theorem set_mid (p r : List Nat) (c d : Nat) {i : Nat} (hi : p.length = i) : (p ++ [c] ++ r).set i d = p ++ [d] ++ r := by
  subst hi
  rw [List.append_assoc, List.set_append_right _ _ (Nat.le_refl _), Nat.sub_self]
  simp
/-- What is shifted has zeros at its end: 'or' is a sum. -/
theorem shl_or {l c u : Nat} (hl : l ≤ 32) (hc : c < 2 ^ l) : c ||| (u * 2 ^ l) % W32 = (c + 2 ^ l * u) % W32 ∧ (u * 2 ^ l) / W32 = (c + 2 ^ l * u) / W32 := by
  obtain ⟨m, hm⟩ : ∃ m, m = 32 - l := ⟨_, rfl⟩
  have hW : W32 = 2 ^ l * 2 ^ m := by rw [← Nat.pow_add, show l + m = 32 from by omega]; rfl
  have e1 : (u * 2 ^ l) % W32 = 2 ^ l * (u % 2 ^ m) := by rw [hW, Nat.mul_comm u, Nat.mul_mod_mul_left]
  have e2 : (u * 2 ^ l) / W32 = u / 2 ^ m := by rw [hW, Nat.mul_comm u, Nat.mul_div_mul_left _ _ (Nat.pow_pos (by omega))]
  have e3 : (c + 2 ^ l * u) / 2 ^ l = u := by rw [Nat.add_mul_div_left _ _ (Nat.pow_pos (by omega)), Nat.div_eq_of_lt hc, Nat.zero_add]
  have e4 : (c + 2 ^ l * u) % 2 ^ l = c := by rw [Nat.add_mul_mod_self_left, Nat.mod_eq_of_lt hc]
  refine ⟨?_, ?_⟩
  · rw [e1, Nat.or_comm, ← Nat.two_pow_add_eq_or_of_lt hc, hW, Nat.mod_mul, e3, e4]
    omega
  · rw [e2, hW, ← Nat.div_div_eq_div_mul, e3]

/-- A shift to the right, digit by digit: the first digits of the quotient. -/
def DigsIs (y : Nat) (s : List Nat) (i : Nat) : Prop := s.length = i ∧ Small s ∧ val s = y % W32 ^ i
theorem digsIs_zero (y : Nat) : DigsIs y [] 0 := ⟨rfl, small_nil, by simp [val_nil, Nat.mod_one]⟩
theorem digsIs_step {y i d : Nat} {s : List Nat} (h : DigsIs y s i) (hd : d = y / W32 ^ i % W32) : DigsIs y (s ++ [d]) (i + 1) := by
  obtain ⟨h1, h2, h3⟩ := h
  refine ⟨by rw [List.length_append, h1]; rfl, small_append h2 (small_one (by rw [hd]; exact Nat.mod_lt _ W32_pos)), ?_⟩
  rw [val_append, h1, val_cons, val_nil, Nat.mul_zero, Nat.add_zero, h3, hd, Nat.pow_succ, Nat.mod_mul]
theorem digsIs_end {y i : Nat} {s : List Nat} (h : DigsIs y s i) (hy : y < W32 ^ i) : trim s = dig y := by
  obtain ⟨h1, h2, h3⟩ := h
  rw [← dig_val h2, h3, Nat.mod_eq_of_lt hy]
theorem shr_digit {x q l i u v : Nat} (hl : l ≤ 32) (hu : nth (dig x) (q + i) = u) (hv : nth (dig x) (q + i + 1) = v) : (u + W32 * v) / 2 ^ l % W32 = x / 2 ^ (32 * q + l) / W32 ^ i % W32 := by
  rw [nth_dig] at hu hv
  have hz : x / W32 ^ (q + i + 1) = x / W32 ^ (q + i) / W32 := by rw [Nat.pow_succ, Nat.div_div_eq_div_mul]
  rw [hz] at hv
  have e : x / 2 ^ (32 * q + l) / W32 ^ i = x / W32 ^ (q + i) / 2 ^ l := by
    rw [Nat.div_div_eq_div_mul, Nat.div_div_eq_div_mul, Nat.pow_add, ← W32_pow, Nat.pow_add]
    congr 1
    ac_rfl
  rw [e, ← hu, ← hv]
  generalize x / W32 ^ (q + i) = z
  obtain ⟨m, hm⟩ : ∃ m, m = 32 - l := ⟨_, rfl⟩
  have hW : W32 = 2 ^ l * 2 ^ m := by rw [← Nat.pow_add, show l + m = 32 from by omega]; rfl
  have e2 : z % W32 + W32 * (z / W32 % W32) = z % (2 ^ l * (W32 * 2 ^ m)) := by
    have : z % (W32 * W32) = z % W32 + W32 * (z / W32 % W32) := Nat.mod_mul
    rw [← this]
    congr 1
    rw [hW]
    ac_rfl
  rw [e2, Nat.mod_mul_right_div_self, Nat.mod_mul_right_mod]
theorem shr_small {x q l n : Nat} (hx : len x ≤ n) (hq : q ≤ n) : x / 2 ^ (32 * q + l) < W32 ^ (n - q) := by
  have h1 := len_le_iff.1 hx
  rw [Nat.div_lt_iff_lt_mul (Nat.pow_pos (by omega)), Nat.pow_add, ← W32_pow]
  have e : W32 ^ n = W32 ^ (n - q) * W32 ^ q := by rw [← Nat.pow_add, show n - q + q = n from by omega]
  rw [e] at h1
  have : W32 ^ (n - q) * (W32 ^ q * 1) ≤ W32 ^ (n - q) * (W32 ^ q * 2 ^ l) := Nat.mul_le_mul_left _ (Nat.mul_le_mul_left _ (Nat.pow_pos (by omega)))
  rw [Nat.mul_one] at this
  omega
theorem shr_zero {x q l n : Nat} (hx : len x ≤ n) (hq : n ≤ q) : x / 2 ^ (32 * q + l) = 0 := by
  apply Nat.div_eq_of_lt
  have h1 := len_le_iff.1 hx
  refine Nat.lt_of_lt_of_le h1 ?_
  rw [W32_pow]
  exact Nat.pow_le_pow_right (by omega) (by omega)

/-- How many binary digits a number has. -/
def blen (x : Nat) : Nat := if x = 0 then 0 else Nat.log2 x + 1
theorem blen_zero : blen 0 = 0 := rfl
theorem lt_two_pow_blen (x : Nat) : x < 2 ^ blen x := by
  unfold blen
  split
  · rename_i h; rw [h]; exact Nat.pow_pos (by omega)
  · exact Nat.lt_log2_self
theorem blen_pos {x : Nat} (h : 0 < x) : 0 < blen x := by unfold blen; rw [if_neg (by omega)]; omega
theorem two_pow_blen_le {x : Nat} (h : 0 < x) : 2 ^ (blen x - 1) ≤ x := by
  unfold blen
  rw [if_neg (by omega), Nat.add_sub_cancel]
  exact Nat.log2_self_le (by omega)
theorem blen_le {x n : Nat} (h : x < 2 ^ n) : blen x ≤ n := by
  rcases Nat.eq_zero_or_pos x with h0 | h0
  · subst h0; rw [blen_zero]; omega
  · rcases Nat.lt_or_ge n (blen x) with h1 | h1
    · have h2 := two_pow_blen_le h0
      have h3 := Nat.pow_le_pow_right (n := 2) (by omega) (show n ≤ blen x - 1 by omega)
      omega
    · exact h1
theorem blen_le_iff {x n : Nat} : blen x ≤ n ↔ x < 2 ^ n := ⟨fun h => Nat.lt_of_lt_of_le (lt_two_pow_blen x) (Nat.pow_le_pow_right (by omega) h), blen_le⟩
theorem blen_of {x n : Nat} (h1 : x < 2 ^ (n + 1)) (h2 : 2 ^ n ≤ x) : blen x = n + 1 := by
  have h3 := blen_le h1
  rcases Nat.lt_or_ge (blen x) (n + 1) with h4 | h4
  · have := blen_le_iff.1 (show blen x ≤ n by omega)
    omega
  · omega
theorem blen_mono {x y : Nat} (h : x ≤ y) : blen x ≤ blen y := blen_le (Nat.lt_of_le_of_lt h (lt_two_pow_blen y))
theorem blen_high {lo top k : Nat} (h : lo < 2 ^ k) (ht : 0 < top) : blen (lo + 2 ^ k * top) = k + blen top := by
  have h1 := lt_two_pow_blen top
  have h2 := two_pow_blen_le ht
  have h3 := blen_pos ht
  obtain ⟨n, hn⟩ : ∃ n, blen top = n + 1 := ⟨blen top - 1, by omega⟩
  rw [hn] at h1 h2 ⊢
  rw [Nat.add_sub_cancel] at h2
  rw [← Nat.add_assoc]
  apply blen_of
  · have : 2 ^ k * (top + 1) ≤ 2 ^ k * 2 ^ (n + 1) := Nat.mul_le_mul_left _ h1
    rw [Nat.mul_add] at this
    rw [Nat.add_assoc, Nat.pow_add]
    omega
  · rw [Nat.pow_add]
    have : 2 ^ k * 2 ^ n ≤ 2 ^ k * top := Nat.mul_le_mul_left _ h2
    omega
theorem blen_half {x : Nat} (h : 0 < x) : blen x = 1 + blen (x / 2) := by
  rcases Nat.lt_or_ge x 2 with h1 | h1
  · obtain rfl : x = 1 := by omega
    rfl
  · have e : x = x % 2 + 2 ^ 1 * (x / 2) := by omega
    have := blen_high (lo := x % 2) (top := x / 2) (k := 1) (by omega) (by omega)
    rw [← e] at this
    exact this

/-- A binary digit. -/
def bitB (x i : Nat) : Bool := decide (x / 2 ^ i % 2 = 1)
theorem bitB_high {x i : Nat} (h : blen x ≤ i) : bitB x i = false := by
  unfold bitB
  rw [Nat.div_eq_of_lt (blen_le_iff.1 h)]; rfl
theorem bitB_top {x : Nat} (h : 0 < x) : bitB x (blen x - 1) = true := by
  unfold bitB
  have h1 := two_pow_blen_le h
  have h2 := lt_two_pow_blen x
  have h3 := blen_pos h
  have e : x / 2 ^ (blen x - 1) = 1 := by
    rw [Nat.div_eq_iff (Nat.pow_pos (by omega))]
    have : 2 ^ blen x = 2 * 2 ^ (blen x - 1) := by
      rw [← Nat.pow_succ']
      congr 1
      omega
    omega
  rw [e]; rfl
theorem bitB_dig (x q l : Nat) (hl : l < 32) : bitB x (32 * q + l) = decide (nth (dig x) q / 2 ^ l % 2 = 1) := by
  unfold bitB
  rw [nth_dig, Nat.pow_add, ← W32_pow, ← Nat.div_div_eq_div_mul]
  congr 1
  obtain ⟨m, hm⟩ : ∃ m, m = 31 - l := ⟨_, rfl⟩
  have hW : W32 = 2 ^ l * (2 * 2 ^ m) := by rw [← Nat.pow_succ', ← Nat.pow_add, show l + (m + 1) = 32 from by omega]; rfl
  have : x / W32 ^ q % W32 / 2 ^ l % 2 = x / W32 ^ q / 2 ^ l % 2 := by
    generalize x / W32 ^ q = z
    rw [hW, Nat.mod_mul_right_div_self, Nat.mod_mul_right_mod]
  rw [this]

/-- How many zeros stand below the lowest digit 1; 0 for zero. -/
def tz (x : Nat) : Nat := if x = 0 then 0 else if x % 2 = 1 then 0 else 1 + tz (x / 2)
termination_by x
decreasing_by omega
theorem tz_zero : tz 0 = 0 := by rw [tz]; simp
theorem tz_mul (k m : Nat) : tz (2 ^ k * (2 * m + 1)) = k := by
  induction k with
  | zero => rw [tz, if_neg (by omega), if_pos (by omega)]
  | succ k ih =>
    have hp : 0 < 2 ^ k * (2 * m + 1) := Nat.mul_pos (Nat.pow_pos (by omega)) (by omega)
    rw [tz, Nat.pow_succ, Nat.mul_comm (2 ^ k) 2, Nat.mul_assoc, if_neg (by omega), if_neg (by omega), Nat.mul_div_cancel_left _ (by omega : 0 < 2), ih, Nat.add_comm]
theorem tz_form {x : Nat} (h : 0 < x) : ∃ m, x = 2 ^ tz x * (2 * m + 1) := by
  induction x using Nat.strongRecOn with
  | ind x ih =>
    rw [tz, if_neg (by omega)]
    by_cases h1 : x % 2 = 1
    · rw [if_pos h1]; exact ⟨x / 2, by omega⟩
    · rw [if_neg h1]
      obtain ⟨m, hm⟩ := ih (x / 2) (by omega) (by omega)
      refine ⟨m, ?_⟩
      rw [Nat.pow_add, Nat.mul_assoc, ← hm]
      omega
theorem bitB_tz {x : Nat} (h : 0 < x) : bitB x (tz x) = true := by
  obtain ⟨m, hm⟩ := tz_form h
  unfold bitB
  have : x / 2 ^ tz x = 2 * m + 1 := by
    have h2 := Nat.mul_div_cancel_left (2 * m + 1) (Nat.pow_pos (n := tz x) (by omega : 0 < 2))
    rwa [← hm] at h2
  rw [this]
  simp
theorem tz_of {x k : Nat} (h1 : ∀ j, j < k → bitB x j = false) (h2 : bitB x k = true) : tz x = k := by
  have hx : 0 < x := by
    rcases Nat.eq_zero_or_pos x with h0 | h0
    · subst h0; simp [bitB] at h2
    · exact h0
  have hb := bitB_tz hx
  rcases Nat.lt_trichotomy (tz x) k with h | h | h
  · rw [h1 _ h] at hb; cases hb
  · exact h
  · obtain ⟨m, hm⟩ := tz_form hx
    unfold bitB at h2
    have e : x / 2 ^ k = 2 * (2 ^ (tz x - k - 1) * (2 * m + 1)) := by
      have e1 : x = 2 ^ k * (2 * (2 ^ (tz x - k - 1) * (2 * m + 1))) := by
        have e2 : 2 ^ tz x = 2 ^ k * (2 * 2 ^ (tz x - k - 1)) := by
          rw [← Nat.pow_succ', ← Nat.pow_add]
          congr 1
          omega
        rw [← Nat.mul_assoc 2, ← Nat.mul_assoc, ← e2]
        exact hm
      have h3 := Nat.mul_div_cancel_left (2 * (2 ^ (tz x - k - 1) * (2 * m + 1))) (Nat.pow_pos (n := k) (by omega : 0 < 2))
      rwa [← e1] at h3
    rw [e] at h2
    simp at h2
/-- Words of zeros, then one that is not zero. -/
theorem tz_words {x j u : Nat} (h0 : ∀ i, i < j → nth (dig x) i = 0) (hu : nth (dig x) j = u) (hpos : 0 < u) : tz x = 32 * j + tz u := by
  have hlt : u < 2 ^ 32 := by rw [← hu]; exact (small_dig x).get j
  have htu : tz u < 32 := by
    obtain ⟨m, hm⟩ := tz_form hpos
    have h1 : 2 ^ tz u * 1 ≤ u := by
      have : 2 ^ tz u * 1 ≤ 2 ^ tz u * (2 * m + 1) := Nat.mul_le_mul_left _ (by omega)
      omega
    exact (Nat.pow_lt_pow_iff_right (by omega : 1 < 2)).1 (by omega)
  apply tz_of
  · intro i hi
    obtain ⟨q, l, hl, rfl⟩ : ∃ q l, l < 32 ∧ i = 32 * q + l := ⟨i / 32, i % 32, by omega, by omega⟩
    rw [bitB_dig x q l hl]
    rcases Nat.lt_or_ge q j with h | h
    · rw [h0 q h]; simp
    · obtain rfl : q = j := by omega
      rw [hu]
      have hl2 : l < tz u := by omega
      rcases hb : bitB u l with _ | _
      · exact hb
      · have : tz u ≤ l := by
          rcases Nat.lt_or_ge l (tz u) with h3 | h3
          · exfalso
            obtain ⟨m, hm⟩ := tz_form hpos
            unfold bitB at hb
            have e2 : 2 ^ tz u = 2 ^ l * (2 * 2 ^ (tz u - l - 1)) := by
              rw [← Nat.pow_succ', ← Nat.pow_add]
              congr 1
              omega
            have e1 : u = 2 ^ l * (2 * (2 ^ (tz u - l - 1) * (2 * m + 1))) := by
              rw [← Nat.mul_assoc 2, ← Nat.mul_assoc, ← e2]
              exact hm
            have h4 := Nat.mul_div_cancel_left (2 * (2 ^ (tz u - l - 1) * (2 * m + 1))) (Nat.pow_pos (n := l) (by omega : 0 < 2))
            rw [← e1] at h4
            rw [h4] at hb
            simp at hb
          · exact h3
        omega
  · rw [bitB_dig x j _ htu, hu]
    exact bitB_tz hpos

/-- The rest modulo a power of two. -/
theorem low_val {x q l u : Nat} (hl : l < 32) (hu : nth (dig x) q = u) : val ((dig x).take q ++ [u % 2 ^ l]) = x % 2 ^ (32 * q + l) := by
  rcases Nat.lt_or_ge q (len x) with h | h
  · rw [val_append, List.length_take, length_dig, Nat.min_eq_left (by omega), val_take _ (small_dig x), val_dig, val_cons, val_nil, Nat.mul_zero, Nat.add_zero, Nat.pow_add, ← W32_pow, Nat.mod_mul, ← hu, nth_dig]
    congr 2
    obtain ⟨m, hm⟩ : ∃ m, m = 32 - l := ⟨_, rfl⟩
    have hW : W32 = 2 ^ l * 2 ^ m := by rw [← Nat.pow_add, show l + m = 32 from by omega]; rfl
    rw [hW, Nat.mod_mul_right_mod]
  · have hz : u = 0 := by rw [← hu]; exact nth_of_ge (by rw [length_dig]; exact h)
    rw [hz, List.take_of_length_le (by rw [length_dig]; exact h), val_append, val_dig, val_cons, val_nil]
    simp
    have h1 := len_le_iff.1 h
    rw [W32_pow] at h1
    exact (Nat.mod_eq_of_lt (Nat.lt_of_lt_of_le h1 (Nat.pow_le_pow_right (by omega) (by omega)))).symm

theorem shlIs_end2 {x q l j c : Nat} {p : List Nat} (h : ShlIs x q l p j c) (hj : len x < j) (hl : l ≤ 32) : trim p = dig (x * 2 ^ (32 * q + l)) := by
  obtain ⟨h1, h2, h3, h4⟩ := h
  rw [List.take_of_length_le (by rw [length_dig]; omega), val_dig] at h4
  have hx := len_le_iff.1 (show len x ≤ j - 1 by omega)
  have hle : 2 ^ l ≤ W32 := by unfold W32; exact Nat.pow_le_pow_right (n := 2) (by omega) hl
  have hlt : W32 ^ q * 2 ^ l * x < W32 ^ (q + j) := by
    have e : W32 ^ (q + j) = W32 ^ q * W32 * W32 ^ (j - 1) := by
      rw [← Nat.pow_succ, ← Nat.pow_add]
      congr 1
      omega
    rw [e]
    refine Nat.lt_of_le_of_lt (Nat.mul_le_mul_right x (Nat.mul_le_mul_left _ hle)) ?_
    exact Nat.mul_lt_mul_of_pos_left hx (Nat.mul_pos (Nat.pow_pos W32_pos) W32_pos)
  have hc : c = 0 := by
    rcases Nat.eq_zero_or_pos c with h0 | h0
    · exact h0
    · have : W32 ^ (q + j) * 1 ≤ W32 ^ (q + j) * c := Nat.mul_le_mul_left _ h0
      omega
  rw [hc, Nat.mul_zero, Nat.add_zero] at h4
  rw [← dig_val h2, h4, Nat.pow_add, ← W32_pow, Nat.mul_comm]
theorem shl_or64 {l c u : Nat} (hc : c < 2 ^ l) : u * 2 ^ l ||| c = c + 2 ^ l * u := by
  rw [Nat.mul_comm u, ← Nat.two_pow_add_eq_or_of_lt hc, Nat.add_comm]
theorem blen_of_bits {x k : Nat} (h : ∀ j, k ≤ j → bitB x j = false) (hk : 0 < k → bitB x (k - 1) = true) : blen x = k := by
  rcases Nat.lt_trichotomy (blen x) k with h1 | h1 | h1
  · have := hk (by omega)
    rw [bitB_high (by omega)] at this
    cases this
  · exact h1
  · have hp : 0 < x := by
      rcases Nat.eq_zero_or_pos x with h0 | h0
      · subst h0; rw [blen_zero] at h1; omega
      · exact h0
    have := bitB_top hp
    rw [h _ (by omega)] at this
    cases this
theorem blen_le_len (x : Nat) : blen x ≤ 32 * len x := by
  rw [blen_le_iff, ← W32_pow]
  exact lt_pow_len x
theorem zero_of_bits {x : Nat} (h : ∀ j, bitB x j = false) : x = 0 := by
  rcases Nat.eq_zero_or_pos x with h0 | h0
  · exact h0
  · have := bitB_top h0
    rw [h] at this
    cases this
/-- A binary digit at any place. -/
def bitI (x : Nat) (i : Int) : Bool := if i < 0 then false else bitB x i.toNat
theorem bitI_nat (x k : Nat) : bitI x (k : Int) = bitB x k := by unfold bitI; rw [if_neg (by omega), Int.toNat_natCast]
theorem bitI_neg (x : Nat) {i : Int} (h : i < 0) : bitI x i = false := by unfold bitI; rw [if_pos h]

end Go.Proofs.YtajegednakenbaaDoor
