/- Texts: strings as lists of bytes; decimal and hexadecimal digits; which texts are numbers. -/
import Derived.Test.YtpgiolbnmlbjbaaGreatDoorBaseN
import Derived.Laws.Concat
import Derived.Lib.TrimByte
namespace Go.Proofs.YtpgiolbnmlbjbaaGreatDoor
open Go.RowKit
set_option linter.unusedVariables false
set_option linter.unusedSimpArgs false
set_option maxRecDepth 100000

/-- The string of a list of bytes. -/
def str (l : List Nat) : ByteArray := ⟨(l.map UInt8.ofNat).toArray⟩
def Byt (l : List Nat) : Prop := ∀ x ∈ l, x < 256
theorem byt_nil : Byt [] := fun x h => by cases h
theorem byt_one {x : Nat} (h : x < 256) : Byt [x] := fun y hy => by rw [List.mem_singleton] at hy; omega
theorem byt_append {a b : List Nat} (h1 : Byt a) (h2 : Byt b) : Byt (a ++ b) := fun x hx => (List.mem_append.1 hx).elim (h1 x) (h2 x)
theorem byt_cons {x : Nat} {l : List Nat} (h1 : x < 256) (h2 : Byt l) : Byt (x :: l) := fun y hy => by
  rcases List.mem_cons.1 hy with rfl | hy
  · exact h1
  · exact h2 y hy
theorem byt_take {l : List Nat} (h : Byt l) (k : Nat) : Byt (l.take k) := fun x hx => h x (List.mem_of_mem_take hx)
theorem byt_drop {l : List Nat} (h : Byt l) (k : Nat) : Byt (l.drop k) := fun x hx => h x (List.mem_of_mem_drop hx)
theorem byt_reverse {l : List Nat} (h : Byt l) : Byt l.reverse := fun x hx => h x (List.mem_reverse.1 hx)
theorem byt_get {l : List Nat} (h : Byt l) (k : Nat) : nth l k < 256 := by
  rw [nth_eq]
  rcases Nat.lt_or_ge k l.length with h1 | h1
  · rw [List.getElem?_eq_getElem h1]; exact h _ (List.getElem_mem h1)
  · rw [List.getElem?_eq_none h1]; decide
theorem ofNat_toNat {x : Nat} (h : x < 256) : (UInt8.ofNat x).toNat = x := by
  rw [UInt8.toNat_ofNat']; exact Nat.mod_eq_of_lt h

theorem str_size (l : List Nat) : (str l).size = l.length := by unfold str; rw [Lib.size_mk, List.length_map]
theorem str_toList (l : List Nat) : (str l).toList = l.map UInt8.ofNat := by unfold str; exact ByteArray.toList_mk _
theorem str_data (l : List Nat) : (str l).data.toList = l.map UInt8.ofNat := by unfold str; simp
theorem str_get {l : List Nat} (hb : Byt l) (i : Nat) (h : i < (str l).size) : ((str l)[i]'h).toNat = nth l i := by
  have hi : i < l.length := by rw [← str_size]; exact h
  have e : (str l)[i]'h = UInt8.ofNat l[i] := by
    have h1 := Lib.getElem_mk (l.map UInt8.ofNat) i h
    rw [List.getElem?_map, List.getElem?_eq_getElem hi] at h1
    exact (Option.some.inj h1).symm
  rw [e, ofNat_toNat (hb _ (List.getElem_mem hi)), nth_eq, List.getElem?_eq_getElem hi]
  rfl
theorem str_append (a b : List Nat) : str a ++ str b = str (a ++ b) := by
  unfold str; rw [ByteArray.mk_append_mk, List.map_append]
theorem str_extract (l : List Nat) (a b : Nat) : (str l).extract a b = str ((l.drop a).take (b - a)) := by
  unfold str; rw [Lib.extract_mk, List.map_take, List.map_drop]
theorem map_inj : ∀ {a b : List Nat}, Byt a → Byt b → a.map UInt8.ofNat = b.map UInt8.ofNat → a = b
  | [], [], _, _, _ => rfl
  | [], _ :: _, _, _, h => by simp at h
  | _ :: _, [], _, _, h => by simp at h
  | x :: a, y :: b, h1, h2, h => by
    simp only [List.map_cons, List.cons.injEq] at h
    have e : x = y := by
      have := congrArg UInt8.toNat h.1
      rw [ofNat_toNat (h1 x (List.mem_cons_self ..)), ofNat_toNat (h2 y (List.mem_cons_self ..))] at this
      exact this
    rw [e, map_inj (fun z hz => h1 z (List.mem_cons_of_mem _ hz)) (fun z hz => h2 z (List.mem_cons_of_mem _ hz)) h.2]
theorem str_eql {a b : List Nat} (ha : Byt a) (hb : Byt b) : ((str a).toList == (str b).toList) = decide (a = b) := by
  rw [str_toList, str_toList, Bool.eq_iff_iff, beq_iff_eq, decide_eq_true_iff]
  exact ⟨map_inj ha hb, fun h => by rw [h]⟩
theorem str_of (s : ByteArray) : ∃ l, s = str l ∧ Byt l := by
  obtain ⟨⟨l⟩⟩ := s
  refine ⟨l.map UInt8.toNat, ?_, fun x hx => ?_⟩
  · unfold str
    rw [List.map_map]
    congr 2
    have : (UInt8.ofNat ∘ UInt8.toNat) = id := by funext x; simp
    rw [this, List.map_id]
  · obtain ⟨b, _, rfl⟩ := List.mem_map.1 hx
    exact b.toNat_lt

theorem snocInd {P : List Nat → Prop} (h0 : P []) (h1 : ∀ b c, P b → P (b ++ [c])) (l : List Nat) : P l := by
  have h : ∀ m : List Nat, P m.reverse := by
    intro m
    induction m with
    | nil => exact h0
    | cons c m ih => rw [List.reverse_cons]; exact h1 _ _ ih
  have := h l.reverse
  rwa [List.reverse_reverse] at this
theorem take_snoc {l : List Nat} {k : Nat} (h : k < l.length) : l.take (k + 1) = l.take k ++ [nth l k] := by
  rw [List.take_add_one, nth_eq, List.getElem?_eq_getElem h]; rfl
theorem ext_nth {a b : List Nat} (hl : a.length = b.length) (h : ∀ i, i < a.length → nth a i = nth b i) : a = b := by
  apply List.ext_getElem hl
  intro i h1 h2
  have := h i h1
  rw [nth_eq, nth_eq, List.getElem?_eq_getElem h1, List.getElem?_eq_getElem h2] at this
  exact this
theorem nth_reverse {l : List Nat} {i : Nat} (h : i < l.length) : nth l.reverse i = nth l (l.length - 1 - i) := by
  rw [nth_eq, nth_eq, List.getElem?_reverse h]
theorem nth_set (l : List Nat) (i x j : Nat) : nth (l.set i x) j = if i = j ∧ j < l.length then x else nth l j := by
  rw [nth_eq, nth_eq, List.getElem?_set]
  by_cases h : i = j
  · subst h
    by_cases h2 : i < l.length
    · simp [h2]
    · rw [if_pos rfl, if_neg h2, if_neg (by omega), List.getElem?_eq_none (by omega)]
  · rw [if_neg h, if_neg (by omega)]

/-- Decimal digits, from the lowest on: so many; as many as there are. -/
def ld : Nat → Nat → List Nat
  | 0, _ => []
  | k + 1, x => (48 + x % 10) :: ld k (x / 10)
def rd (x : Nat) : List Nat := if x = 0 then [] else (48 + x % 10) :: rd (x / 10)
termination_by x
decreasing_by exact Nat.div_lt_self (by omega) (by decide)
/-- The text of a natural. -/
def dd (x : Nat) : List Nat := if x = 0 then [48] else (rd x).reverse
theorem rd_zero : rd 0 = [] := by rw [rd]; simp
theorem rd_pos {x : Nat} (h : 0 < x) : rd x = (48 + x % 10) :: rd (x / 10) := by rw [rd, if_neg (by omega)]
theorem rd_ne {x : Nat} (h : 0 < x) : rd x ≠ [] := by rw [rd_pos h]; simp
theorem ld_length : ∀ (k x : Nat), (ld k x).length = k
  | 0, _ => rfl
  | k + 1, x => by rw [ld, List.length_cons, ld_length k]
theorem ld_snoc : ∀ (k x : Nat), ld (k + 1) x = ld k x ++ [48 + x / 10 ^ k % 10]
  | 0, x => by rw [ld, ld, ld, Nat.pow_zero, Nat.div_one]; rfl
  | k + 1, x => by
    rw [ld, ld_snoc k, ld, List.cons_append, Nat.div_div_eq_div_mul, Nat.pow_succ, Nat.mul_comm 10]
theorem ld_byt : ∀ (k x : Nat), Byt (ld k x)
  | 0, _ => byt_nil
  | k + 1, x => by rw [ld]; exact byt_cons (by omega) (ld_byt k _)
theorem rd_byt (x : Nat) : Byt (rd x) := by
  induction x using Nat.strongRecOn with
  | ind x ih =>
    rcases Nat.eq_zero_or_pos x with rfl | h
    · rw [rd_zero]; exact byt_nil
    · rw [rd_pos h]; exact byt_cons (by omega) (ih _ (Nat.div_lt_self h (by decide)))
theorem dd_byt (x : Nat) : Byt (dd x) := by
  unfold dd
  by_cases h : x = 0
  · rw [if_pos h]; exact byt_one (by omega)
  · rw [if_neg h]; exact byt_reverse (rd_byt x)
theorem dd_zero : dd 0 = [48] := if_pos rfl
theorem dd_pos {x : Nat} (h : 0 < x) : dd x = (rd x).reverse := if_neg (by omega)

/-- How many bytes stay where those at the end that are 48 go. -/
def k48 : List Nat → Nat
  | [] => 0
  | x :: l => if k48 l = 0 then (if x = 48 then 0 else 1) else k48 l + 1
theorem k48_le : ∀ l : List Nat, k48 l ≤ l.length
  | [] => Nat.le_refl _
  | x :: l => by
    have := k48_le l
    rw [k48, List.length_cons]
    split
    · split <;> omega
    · omega
/-- Where all from a place on are 48, and the one before is not. -/
theorem k48_of : ∀ {l : List Nat} {k : Nat}, k ≤ l.length → (∀ j, k ≤ j → j < l.length → nth l j = 48) → (0 < k → nth l (k - 1) ≠ 48) → k48 l = k
  | [], k, h, _, _ => by simp at h; rw [h]; rfl
  | x :: l, 0, _, h2, _ => by
    have e : k48 l = 0 := k48_of (k := 0) (Nat.zero_le _) (fun j _ hj => by
      have := h2 (j + 1) (Nat.zero_le _) (by rw [List.length_cons]; omega)
      rw [nth_eq] at this ⊢
      simpa using this) (fun h => by omega)
    have e2 : x = 48 := by
      have := h2 0 (Nat.le_refl _) (by rw [List.length_cons]; omega)
      rw [nth_eq] at this
      simpa using this
    rw [k48, if_pos e, if_pos e2]
  | x :: l, k + 1, h1, h2, h3 => by
    rw [List.length_cons] at h1
    have e : k48 l = k := k48_of (k := k) (by omega) (fun j hj hl => by
      have := h2 (j + 1) (by omega) (by rw [List.length_cons]; omega)
      rw [nth_eq] at this ⊢
      simpa using this) (fun hk => by
      have := h3 (by omega)
      rw [nth_eq] at this ⊢
      obtain ⟨m, rfl⟩ : ∃ m, k = m + 1 := ⟨k - 1, by omega⟩
      simpa using this)
    rw [k48, e]
    rcases Nat.eq_zero_or_pos k with rfl | hk
    · have := h3 (by omega)
      rw [nth_eq] at this
      rw [if_pos rfl, if_neg (by simpa using this)]
    · rw [if_neg (by omega)]
theorem take_k48_ld : ∀ {k x : Nat}, x < 10 ^ k → (ld k x).take (k48 (ld k x)) = rd x
  | 0, x, h => by
    rw [Nat.pow_zero] at h
    rw [show x = 0 by omega, rd_zero]; rfl
  | k + 1, x, h => by
    have hx : x / 10 < 10 ^ k := by rw [Nat.pow_succ] at h; omega
    have ih := take_k48_ld hx
    rw [ld, k48]
    rcases Nat.eq_zero_or_pos x with rfl | h0
    · have e : k48 (ld k 0) = 0 := by
        have h1 : (ld k (0 / 10)).take (k48 (ld k (0 / 10))) = [] := by rw [ih, Nat.zero_div, rd_zero]
        rw [Nat.zero_div] at h1
        have h2 := congrArg List.length h1
        rw [List.length_take, List.length_nil] at h2
        have := k48_le (ld k 0)
        omega
      rw [Nat.zero_div, e, if_pos rfl, if_pos (by omega), rd_zero, List.take_zero]
    · rw [rd_pos h0]
      by_cases e : k48 (ld k (x / 10)) = 0
      · have h1 : rd (x / 10) = [] := by rw [← ih, e, List.take_zero]
        have h2 : x / 10 = 0 := by
          rcases Nat.eq_zero_or_pos (x / 10) with h3 | h3
          · exact h3
          · exact absurd h1 (rd_ne h3)
        rw [if_pos e, if_neg (by omega), h1, List.take_succ_cons, List.take_zero]
      · rw [if_neg e, List.take_succ_cons, ih]

/-- The number of a list of digits. -/
def num (l : List Nat) : Nat := l.foldl (fun a c => 10 * a + (c - 48)) 0
def isD (c : Nat) : Bool := decide (48 ≤ c ∧ c ≤ 57)
/-- The digits of a natural, and nothing else. -/
def good (l : List Nat) : Bool := decide (l = [48]) || (decide (l ≠ []) && (decide (nth l 0 ≠ 48) && l.all isD))
theorem num_nil : num [] = 0 := rfl
theorem num_snoc (l : List Nat) (c : Nat) : num (l ++ [c]) = 10 * num l + (c - 48) := by unfold num; rw [List.foldl_append]; rfl
theorem num_append (a b : List Nat) : num (a ++ b) = num a * 10 ^ b.length + num b := by
  induction b using snocInd with
  | h0 => rw [List.append_nil, List.length_nil, Nat.pow_zero, num_nil]; omega
  | h1 b c ih =>
    rw [← List.append_assoc, num_snoc, ih, num_snoc, List.length_append, List.length_singleton, Nat.pow_succ, Nat.mul_add]
    have : num a * (10 ^ b.length * 10) = 10 * (num a * 10 ^ b.length) := by rw [← Nat.mul_assoc, Nat.mul_comm]
    omega
theorem num_lt {l : List Nat} (h : l.all isD = true) : num l < 10 ^ l.length := by
  induction l using snocInd with
  | h0 => decide
  | h1 b c ih =>
    rw [List.all_append, Bool.and_eq_true] at h
    have h1 := ih h.1
    have h2 : isD c = true := by simpa using h.2
    unfold isD at h2
    rw [decide_eq_true_iff] at h2
    rw [num_snoc, List.length_append, List.length_singleton, Nat.pow_succ]
    omega
theorem num_rd (x : Nat) : num (rd x).reverse = x := by
  induction x using Nat.strongRecOn with
  | ind x ih =>
    rcases Nat.eq_zero_or_pos x with rfl | h
    · rw [rd_zero]; rfl
    · rw [rd_pos h, List.reverse_cons, num_snoc, ih _ (Nat.div_lt_self h (by decide))]; omega
theorem num_dd (x : Nat) : num (dd x) = x := by
  rcases Nat.eq_zero_or_pos x with rfl | h
  · rfl
  · rw [dd_pos h, num_rd]
theorem rd_all (x : Nat) : (rd x).all isD = true := by
  induction x using Nat.strongRecOn with
  | ind x ih =>
    rcases Nat.eq_zero_or_pos x with rfl | h
    · rw [rd_zero]; rfl
    · rw [rd_pos h, List.all_cons, ih _ (Nat.div_lt_self h (by decide)), Bool.and_true]
      unfold isD
      exact decide_eq_true (by omega)
/-- The highest digit is not 0. -/
theorem rd_last {x : Nat} (h : 0 < x) : nth (rd x) ((rd x).length - 1) ≠ 48 := by
  induction x using Nat.strongRecOn with
  | ind x ih =>
    rw [rd_pos h]
    rcases Nat.eq_zero_or_pos (x / 10) with h0 | h0
    · rw [h0, rd_zero]
      show nth [48 + x % 10] 0 ≠ 48
      rw [nth_eq]
      simp
      omega
    · have h1 := ih _ (Nat.div_lt_self h (by decide)) h0
      have h2 : 0 < (rd (x / 10)).length := List.length_pos_iff.2 (rd_ne h0)
      rw [List.length_cons, Nat.add_sub_cancel]
      obtain ⟨m, hm⟩ : ∃ m, (rd (x / 10)).length = m + 1 := ⟨(rd (x / 10)).length - 1, by omega⟩
      rw [hm] at h1 ⊢
      rw [nth_eq] at h1 ⊢
      simpa using h1
theorem dd_ne (x : Nat) : dd x ≠ [] := by
  rcases Nat.eq_zero_or_pos x with rfl | h
  · rw [dd_zero]; simp
  · rw [dd_pos h]
    intro e
    exact rd_ne h (List.reverse_eq_nil_iff.1 e)
theorem nth_dd {x : Nat} (h : 0 < x) : nth (dd x) 0 ≠ 48 := by
  have h2 : 0 < (rd x).length := List.length_pos_iff.2 (rd_ne h)
  rw [dd_pos h, nth_reverse h2, Nat.sub_zero]
  exact rd_last h
theorem all_dd (x : Nat) : (dd x).all isD = true := by
  rcases Nat.eq_zero_or_pos x with rfl | h
  · rfl
  · rw [dd_pos h, List.all_reverse]; exact rd_all x
theorem good_dd (x : Nat) : good (dd x) = true := by
  rcases Nat.eq_zero_or_pos x with rfl | h
  · rfl
  · unfold good
    rw [decide_eq_true (dd_ne x), decide_eq_true (nth_dd h), all_dd, Bool.and_true, Bool.and_true, Bool.or_true]
theorem good_all {l : List Nat} (h : good l = true) : l.all isD = true := by
  unfold good at h
  rcases Bool.or_eq_true _ _ ▸ h with h | h
  · rw [decide_eq_true_iff] at h; subst h; rfl
  · rw [Bool.and_eq_true, Bool.and_eq_true] at h; exact h.2.2
theorem good_ne {l : List Nat} (h : good l = true) : l ≠ [] := by
  rintro rfl
  revert h
  decide
/-- A text is the text of its number. -/
theorem rd_snoc {x d : Nat} (hd : d < 10) (h : 0 < 10 * x + d) : rd (10 * x + d) = (48 + d) :: rd x := by
  rw [rd_pos h, show (10 * x + d) % 10 = d by omega, show (10 * x + d) / 10 = x by omega]
theorem rd_num : ∀ {l : List Nat}, l.all isD = true → (l ≠ [] → nth l 0 ≠ 48) → (rd (num l)).reverse = l ∧ (l ≠ [] → 0 < num l) := by
  intro l
  induction l using snocInd with
  | h0 => intro _ _; exact ⟨by rw [num_nil, rd_zero]; rfl, fun h => absurd rfl h⟩
  | h1 b c ih =>
    intro h1 h2
    rw [List.all_append, Bool.and_eq_true] at h1
    have hc : isD c = true := by simpa using h1.2
    unfold isD at hc
    rw [decide_eq_true_iff] at hc
    have h3 : b ≠ [] → nth b 0 ≠ 48 := fun hb => by
      have := h2 (by simp)
      rw [nth_append_left (List.length_pos_iff.2 hb)] at this
      exact this
    obtain ⟨e1, e2⟩ := ih h1.1 h3
    have hp : 0 < num (b ++ [c]) := by
      rw [num_snoc]
      by_cases hb : b = []
      · subst hb
        have := h2 (by simp)
        rw [nth_eq] at this
        simp at this
        omega
      · have := e2 hb
        omega
    refine ⟨?_, fun _ => hp⟩
    rw [num_snoc] at hp ⊢
    rw [rd_snoc (by omega) hp, List.reverse_cons, e1, show 48 + (c - 48) = c by omega]
theorem dd_num {l : List Nat} (h : good l = true) : dd (num l) = l := by
  by_cases h0 : l = [48]
  · subst h0; rfl
  · unfold good at h
    rw [decide_eq_false h0, Bool.false_or, Bool.and_eq_true, Bool.and_eq_true, decide_eq_true_iff, decide_eq_true_iff] at h
    obtain ⟨e1, e2⟩ := rd_num h.2.2 (fun _ => h.2.1)
    rw [dd_pos (e2 h.1), e1]
/-- How long a text is. -/
theorem rd_length {x : Nat} : ∀ {n : Nat}, x < 10 ^ n → (rd x).length ≤ n := by
  induction x using Nat.strongRecOn with
  | ind x ih =>
    intro n h
    rcases Nat.eq_zero_or_pos x with rfl | h0
    · rw [rd_zero]; exact Nat.zero_le _
    · cases n with
      | zero => rw [Nat.pow_zero] at h; omega
      | succ n =>
        rw [rd_pos h0, List.length_cons]
        have := ih (x / 10) (Nat.div_lt_self h0 (by decide)) (n := n) (by rw [Nat.pow_succ] at h; omega)
        omega
theorem pow_W32_le (n : Nat) : W32 ^ n ≤ 10 ^ (10 * n) := by
  rw [Nat.pow_mul]
  exact Nat.pow_le_pow_left (by unfold W32; decide) n
theorem dd_length {x n : Nat} (h : len x ≤ n) : (dd x).length ≤ 10 * n + 1 := by
  rcases Nat.eq_zero_or_pos x with rfl | h0
  · rw [dd_zero]; simp
  · have h1 : x < 10 ^ (10 * n) := Nat.lt_of_lt_of_le (lt_pow_len x) (Nat.le_trans (Nat.pow_le_pow_right W32_pos h) (pow_W32_le n))
    rw [dd_pos h0, List.length_reverse]
    have := rd_length h1
    omega
theorem dd_snoc {x d : Nat} (hx : 0 < x) (hd : d < 10) : dd x ++ [48 + d] = dd (10 * x + d) := by
  rw [dd_pos hx, dd_pos (by omega), rd_snoc hd (by omega), List.reverse_cons]

/-- The text of an integer. -/
def fmt (z : Int) : List Nat := if z < 0 then 45 :: dd z.natAbs else dd z.natAbs
theorem fmt_neg {z : Int} (h : z < 0) : fmt z = 45 :: dd z.natAbs := if_pos h
theorem fmt_nn {z : Int} (h : 0 ≤ z) : fmt z = dd z.natAbs := if_neg (by omega)
theorem fmt_byt (z : Int) : Byt (fmt z) := by
  unfold fmt
  by_cases h : z < 0
  · rw [if_pos h]; exact byt_cons (by omega) (dd_byt _)
  · rw [if_neg h]; exact dd_byt _
/-- The sign of a text; its digits. -/
def sgn (l : List Nat) : Bool := decide (nth l 0 = 45)
def bod (l : List Nat) : List Nat := if nth l 0 = 45 then l.drop 1 else l
def okP (l : List Nat) : Bool := good (bod l) && !(sgn l && decide (num (bod l) = 0))
def sgz (b : Bool) (x : Nat) : Int := if b then -(x : Int) else (x : Int)
/-- The errors and the numbers of the four functions. -/
def errN (l : List Nat) : Int := if 20001 < l.length then 7 else if good l then 0 else 6
def valN (l : List Nat) : Nat := if 20001 < l.length then 0 else if good l then num l else 0
def errP (l : List Nat) : Int := if 20001 < l.length then 7 else if okP l then 0 else 6
def valP (l : List Nat) : Int := if 20001 < l.length then 0 else if okP l then sgz (sgn l) (num (bod l)) else 0
theorem isD_45 : isD 45 = false := rfl
theorem nth_dd_45 (x : Nat) : nth (dd x) 0 ≠ 45 := by
  intro h
  have h1 := all_dd x
  have h2 : 0 < (dd x).length := List.length_pos_iff.2 (dd_ne x)
  rw [List.all_eq_true] at h1
  have h3 := h1 _ (List.getElem_mem h2)
  rw [nth_eq, List.getElem?_eq_getElem h2] at h
  have h4 : (dd x)[0] = 45 := h
  rw [h4, isD_45] at h3
  cases h3
theorem sgn_fmt (z : Int) : sgn (fmt z) = decide (z < 0) ∧ bod (fmt z) = dd z.natAbs := by
  unfold sgn bod
  by_cases h : z < 0
  · rw [fmt_neg h]
    exact ⟨by rw [decide_eq_true h]; rfl, rfl⟩
  · rw [fmt_nn (by omega), decide_eq_false h, if_neg (nth_dd_45 _)]
    exact ⟨decide_eq_false (nth_dd_45 _), rfl⟩
theorem okP_fmt (z : Int) : okP (fmt z) = true := by
  obtain ⟨h1, h2⟩ := sgn_fmt z
  unfold okP
  rw [h1, h2, good_dd, num_dd, Bool.true_and]
  by_cases h : z < 0
  · rw [decide_eq_false (show ¬ z.natAbs = 0 by omega), Bool.and_false]; rfl
  · rw [decide_eq_false h, Bool.false_and]; rfl
/-- A text of an integer that is short enough is read. -/
theorem parse_fmt (z : Int) (h : (fmt z).length ≤ 20001) : errP (fmt z) = 0 ∧ valP (fmt z) = z := by
  obtain ⟨h1, h2⟩ := sgn_fmt z
  unfold errP valP
  rw [if_neg (by omega : ¬ 20001 < (fmt z).length), if_neg (by omega : ¬ 20001 < (fmt z).length), if_pos (okP_fmt z), if_pos (okP_fmt z), h1, h2, num_dd]
  refine ⟨rfl, ?_⟩
  unfold sgz
  by_cases h0 : z < 0
  · rw [decide_eq_true h0, if_pos rfl]; omega
  · rw [decide_eq_false h0, if_neg (by simp)]; omega
theorem fmt_length {z : Int} {n : Nat} (h : len z.natAbs ≤ n) : (fmt z).length ≤ 10 * n + 2 := by
  have := dd_length h
  unfold fmt
  split
  · rw [List.length_cons]; omega
  · omega
/-- What is read is the number of the text that it has. -/
theorem fmt_parse {l : List Nat} (h : errP l = 0) : fmt (valP l) = l := by
  unfold errP at h
  unfold valP
  by_cases h1 : 20001 < l.length
  · rw [if_pos h1] at h; cases h
  · rw [if_neg h1] at h ⊢
    by_cases h2 : okP l = true
    · rw [if_pos h2]
      unfold okP at h2
      rw [Bool.and_eq_true] at h2
      obtain ⟨hg, hn⟩ := h2
      have hd := dd_num hg
      unfold sgn at hn ⊢
      unfold bod at hg hn hd ⊢
      by_cases h3 : nth l 0 = 45
      · rw [if_pos h3] at hg hn hd ⊢
        rw [decide_eq_true h3, Bool.true_and] at hn
        have hne : num (l.drop 1) ≠ 0 := by
          intro e
          rw [e] at hn
          revert hn
          decide
        rw [decide_eq_true h3]
        have hz : sgz true (num (l.drop 1)) = -((num (l.drop 1) : Nat) : Int) := rfl
        rw [hz, fmt_neg (by omega), Int.natAbs_neg, Int.natAbs_natCast, hd]
        have hl : l ≠ [] := by rintro rfl; revert h3; decide
        obtain ⟨a, t, rfl⟩ := List.exists_cons_of_ne_nil hl
        have : a = 45 := by rw [nth_eq] at h3; simpa using h3
        rw [this]; rfl
      · rw [if_neg h3] at hg hn hd ⊢
        rw [decide_eq_false h3]
        have hz : sgz false (num l) = ((num l : Nat) : Int) := rfl
        rw [hz, fmt_nn (by omega), Int.natAbs_natCast, hd]
    · rw [if_neg h2] at h; cases h
theorem natural_dd (x : Nat) (h : (dd x).length ≤ 20001) : errN (dd x) = 0 ∧ valN (dd x) = x := by
  unfold errN valN
  rw [if_neg (by omega : ¬ 20001 < (dd x).length), if_neg (by omega : ¬ 20001 < (dd x).length), if_pos (good_dd x), if_pos (good_dd x), num_dd]
  exact ⟨rfl, rfl⟩

end Go.Proofs.YtpgiolbnmlbjbaaGreatDoor
