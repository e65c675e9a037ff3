/- Base texts, joined: Math, Words, NatA, NatB, NatC, NatD, NatE, NatF, Lits, ProdMath, ProdA, QuotMath, QuotA, QuotB, ShrL. -/
import Derived.Below
import Derived.Test.YtiddbhhhmeopeaaGreatDoorProg
import Derived.WalkKit
import Derived.WalkSpells
import Derived.WalkLawsBesides
import Derived.Laws.CopyOwn
import Derived.Lib.Hide
import Derived.BigQuiet
import Derived.Deep.QuietTactic
import Derived.OpenShut
/- Plain mathematics of lists of digits to the base 2^32: nothing of the program. -/
namespace Go.Proofs.YtiddbhhhmeopeaaGreatDoor
set_option maxHeartbeats 64000000

theorem mS {α : Type _} {a : α} {l : List α} : a ∈ a :: l:=List.mem_cons_self ..
theorem mT {α : Type _} {a b : α} {l : List α} (h : a ∈ l) : a ∈ b :: l:=List.mem_cons_of_mem _ h
theorem nm9 {α : Sort _} (a : α) : ∃ z, a = z:=⟨a, rfl⟩
theorem Hd9 {p : Prop} (h : p) : Go.RowKit.Hid p:=Go.Lib.hid h
def W32 : Nat:=4294967296
theorem W32_eq : W32 = 4294967296:=rfl
theorem W32_gt : 1 < W32:=by unfold W32; omega
theorem W32_pos : 0 < W32:=by unfold W32; omega
def val : List Nat → Nat
 | [] => 0
 | x :: l => x + W32 * val l
def trim : List Nat → List Nat
 | [] => []
 | x :: l => if trim l = [] ∧ x = 0 then [] else x :: trim l
def dig (x : Nat) : List Nat:=if x = 0 then [] else x % W32 :: dig (x / W32)
termination_by x
decreasing_by exact Nat.div_lt_self (by omega) W32_gt
def nth (l : List Nat) (i : Nat) : Nat:=l.getD i 0
theorem nth_eq (l : List Nat) (i : Nat) : nth l i = l[i]?.getD 0:=by unfold nth; rw [List.getD_eq_getElem?_getD]
def over (t : List Nat) (n : Nat) (l : List Nat) (m : Nat) : List Nat:=t.take n ++ l.drop m
theorem over_full {t l : List Nat} {n m : Nat} (h : l.length ≤ m) : over t n l m = t.take n:=by unfold over; rw [List.drop_eq_nil_of_le h, List.append_nil]
theorem nth_of_ge {l : List Nat} {i : Nat} (h : l.length ≤ i) : nth l i = 0:=by rw [nth_eq, List.getElem?_eq_none h]; rfl

def Small (l : List Nat) : Prop:=∀ y ∈ l, y < W32

theorem val_nil : val [] = 0:=rfl
theorem val_cons (x : Nat) (l : List Nat) : val (x :: l) = x + W32 * val l:=rfl

theorem dig_zero : dig 0 = []:=by rw [dig]; simp
theorem dig_pos {x : Nat} (h : 0 < x) : dig x = x % W32 :: dig (x / W32):=by
 rw [dig, if_neg (by omega)]

theorem val_dig (x : Nat) : val (dig x) = x:=by
  induction x using Nat.strongRecOn with
  | ind x ih =>
    rcases Nat.eq_zero_or_pos x with h | h
    · subst h; rw [dig_zero]; rfl
    · rw [dig_pos h, val_cons, ih _ (Nat.div_lt_self h W32_gt)]
      exact Nat.mod_add_div x W32

theorem small_nil : Small []:=by intro y hy; cases hy
theorem Small.tail {x : Nat} {l : List Nat} (h : Small (x :: l)) : Small l:=fun y hy => h y (List.mem_cons_of_mem _ hy)
theorem Small.head {x : Nat} {l : List Nat} (h : Small (x :: l)) : x < W32:=h x (List.mem_cons_self ..)
theorem small_cons {x : Nat} {l : List Nat} (hx : x < W32) (h : Small l) : Small (x :: l):=by
 intro y hy
 rcases List.mem_cons.1 hy with rfl | hy
 ·exact hx
 ·exact h y hy
theorem small_append {a b : List Nat} (ha : Small a) (hb : Small b) : Small (a ++ b):=by
 intro y hy
 rcases List.mem_append.1 hy with hy | hy
 ·exact ha y hy
 ·exact hb y hy
theorem small_one {x : Nat} (hx : x < W32) : Small [x]:=small_cons hx small_nil
theorem small_take {l : List Nat} (h : Small l) (k : Nat) : Small (l.take k):=fun y hy => h y (List.mem_of_mem_take hy)
theorem small_drop {l : List Nat} (h : Small l) (k : Nat) : Small (l.drop k):=fun y hy => h y (List.mem_of_mem_drop hy)
theorem small_replicate (k : Nat) : Small (List.replicate k 0):=by
 intro y hy
 rw [List.eq_of_mem_replicate hy]
 exact W32_pos
theorem Small.get {l : List Nat} (h : Small l) (i : Nat) : nth l i < W32:=by
 rw [nth_eq]
 rcases Nat.lt_or_ge i l.length with hi | hi
 ·rw [List.getElem?_eq_getElem hi]; exact h _ (List.getElem_mem hi)
 ·rw [List.getElem?_eq_none hi]; exact W32_pos

theorem small_dig (x : Nat) : Small (dig x):=by
  induction x using Nat.strongRecOn with
  | ind x ih =>
    rcases Nat.eq_zero_or_pos x with h | h
    · subst h; rw [dig_zero]; exact small_nil
    · rw [dig_pos h]
      exact small_cons (Nat.mod_lt _ W32_pos) (ih _ (Nat.div_lt_self h W32_gt))

theorem val_pos_of_trim {l : List Nat} (h : trim l ≠ []) : 0 < val l:=by
  induction l with
  | nil => exact absurd rfl h
  | cons x l ih =>
    rw [val_cons]
    unfold trim at h
    by_cases ht : trim l = []
    · by_cases hx : x = 0
      · rw [if_pos ⟨ht, hx⟩] at h; exact absurd rfl h
      · omega
    · have:=ih ht
      have:=Nat.mul_pos W32_pos this
      omega

theorem dig_val {l : List Nat} (h : Small l) : dig (val l) = trim l:=by
  induction l with
  | nil => rw [val_nil, dig_zero]; rfl
  | cons x l ih =>
    have ih':=ih h.tail
    have hx:=h.head
    rw [val_cons]
    unfold trim
    by_cases ht : trim l = [] ∧ x = 0
    · rw [if_pos ht]
      obtain ⟨h1, h2⟩:=ht
      rw [h1] at ih'
      have hv : val l = 0:=by rw [← val_dig (val l), ih']; rfl
      rw [hv, h2]; simp [dig_zero]
    · rw [if_neg ht]
      have hp : 0 < x + W32 * val l:=by
        rcases Nat.eq_zero_or_pos x with h0 | h0
        · have : trim l ≠ []:=fun h1 => ht ⟨h1, h0⟩
          have:=Nat.mul_pos W32_pos (val_pos_of_trim this)
          omega
        · omega
      rw [dig_pos hp, Nat.add_mul_mod_self_left, Nat.mod_eq_of_lt hx, Nat.add_mul_div_left _ _ W32_pos, Nat.div_eq_of_lt hx, Nat.zero_add, ih']

theorem trim_dig (x : Nat) : trim (dig x) = dig x:=by rw [← dig_val (small_dig x), val_dig]
theorem dig_inj {x y : Nat} (h : dig x = dig y) : x = y:=by rw [← val_dig x, h, val_dig]

theorem val_append (a b : List Nat) : val (a ++ b) = val a + W32 ^ a.length * val b:=by
  induction a with
  | nil => simp [val_nil]
  | cons x a ih =>
    rw [List.cons_append, val_cons, val_cons, ih, List.length_cons, Nat.pow_succ, Nat.mul_add, Nat.mul_comm (W32 ^ a.length) W32, Nat.mul_assoc, Nat.add_assoc]

theorem val_replicate (k : Nat) : val (List.replicate k 0) = 0:=by
 induction k with
 | zero => rfl
 | succ k ih => rw [List.replicate_succ, val_cons, ih]; simp

theorem val_lt {l : List Nat} (h : Small l) : val l < W32 ^ l.length:=by
  induction l with
  | nil => simp [val_nil]
  | cons x l ih =>
    have ih':=ih h.tail
    have hx:=h.head
    rw [val_cons, List.length_cons, Nat.pow_succ, Nat.mul_comm]
    have h2 : W32 * (val l + 1) ≤ W32 * W32 ^ l.length:=Nat.mul_le_mul_left _ ih'
    rw [Nat.mul_add] at h2
    rw [Nat.mul_comm (W32 ^ l.length) W32, Nat.mul_comm (val l) W32]
    omega

theorem take_succ_nth (l : List Nat) (i : Nat) (h : i < l.length) : l.take (i + 1) = l.take i ++ [nth l i]:=by
 rw [List.take_succ_eq_append_getElem h, nth_eq, List.getElem?_eq_getElem h]; rfl

theorem val_take_succ (l : List Nat) (i : Nat) : val (l.take (i + 1)) = val (l.take i) + W32 ^ i * nth l i:=by
 rcases Nat.lt_or_ge i l.length with h | h
 ·rw [take_succ_nth l i h, val_append, List.length_take, Nat.min_eq_left (by omega), val_cons, val_nil]; simp
 ·rw [List.take_of_length_le (by omega), List.take_of_length_le h, nth_of_ge h]; simp
theorem trim_of {l : List Nat} {k : Nat} (hk : k ≤ l.length) (hz : ∀ j, k ≤ j → j < l.length → nth l j = 0) (hn : 0 < k → nth l (k - 1) ≠ 0) : trim l = l.take k:=by
  simp only [nth] at hz hn
  induction l generalizing k with
  | nil => simp [trim]
  | cons x l ih =>
    unfold trim
    cases k with
    | zero =>
      have h0 : x = 0:=by simpa using hz 0 (Nat.le_refl _) (by simp)
      have ht : trim l = l.take 0:=ih (Nat.zero_le _) (fun j h1 h2 => by simpa using hz (j + 1) (by omega) (by simp; omega)) (by omega)
      rw [if_pos ⟨by simpa using ht, h0⟩]; rfl
    | succ k =>
      have ht : trim l = l.take k:=ih (by simpa using hk) (fun j h1 h2 => by simpa using hz (j + 1) (by omega) (by simp; omega)) (fun h => by
        have:=hn (by omega)
        rw [show k + 1 - 1 = (k - 1) + 1 from by omega] at this
        simpa using this)
      rw [if_neg, ht]; rfl
      rintro ⟨h1, h2⟩
      have hl : (l.take k).length = 0:=by rw [← ht, h1]; rfl
      rw [List.length_take] at hl
      have hk' : k ≤ l.length:=by simpa using hk
      have : k = 0:=by omega
      subst this
      exact hn (by omega) (by simpa using h2)

theorem length_trim_le (l : List Nat) : (trim l).length ≤ l.length:=by
 induction l with
 | nil => simp [trim]
 | cons x l ih => unfold trim; split <;> simp; omega

theorem trim_take (l : List Nat) : l.take (trim l).length = trim l:=by
  induction l with
  | nil => rfl
  | cons x l ih =>
    unfold trim
    split
    · rfl
    · rw [List.length_cons, List.take_succ_cons, ih]
def len (x : Nat) : Nat:=(dig x).length

theorem length_dig (x : Nat) : (dig x).length = len x:=rfl
theorem len_zero : len 0 = 0:=by unfold len; rw [dig_zero]; rfl
theorem len_val_le {l : List Nat} (h : Small l) : len (val l) ≤ l.length:=by unfold len; rw [dig_val h]; exact length_trim_le l
theorem lt_pow_len (x : Nat) : x < W32 ^ len x:=by
 have:=val_lt (small_dig x)
 rwa [val_dig] at this
theorem len_le {x k : Nat} (h : x < W32 ^ k) : len x ≤ k:=by
  induction k generalizing x with
  | zero => have : x = 0:=by simpa using h
            subst this; rw [len_zero]; omega
  | succ k ih =>
    rcases Nat.eq_zero_or_pos x with h0 | h0
    · subst h0; rw [len_zero]; omega
    · have hd : x / W32 < W32 ^ k:=by
        rw [Nat.div_lt_iff_lt_mul W32_pos, ← Nat.pow_succ]; exact h
      have:=ih hd
      unfold len at *
      rw [dig_pos h0, List.length_cons]; omega
theorem len_le_iff {x k : Nat} : len x ≤ k ↔ x < W32 ^ k:=⟨fun h => Nat.lt_of_lt_of_le (lt_pow_len x) (Nat.pow_le_pow_right W32_pos h), len_le⟩
theorem len_mono {x y : Nat} (h : x ≤ y) : len x ≤ len y:=len_le (Nat.lt_of_le_of_lt h (lt_pow_len y))
theorem len_add (x y : Nat) : len (x + y) ≤ max (len x) (len y) + 1:=by
 apply len_le
 have hx:=Nat.lt_of_lt_of_le (lt_pow_len x) (Nat.pow_le_pow_right W32_pos (Nat.le_max_left (len x) (len y)))
 have hy:=Nat.lt_of_lt_of_le (lt_pow_len y) (Nat.pow_le_pow_right W32_pos (Nat.le_max_right (len x) (len y)))
 rw [Nat.pow_succ, Nat.mul_comm]
 have : 2 * W32 ^ max (len x) (len y) ≤ W32 * W32 ^ max (len x) (len y):=Nat.mul_le_mul_right _ (by unfold W32; omega)
 omega
theorem len_mul (x y : Nat) : len (x * y) ≤ len x + len y:=by
 apply len_le
 rw [Nat.pow_add]
 exact Nat.mul_lt_mul_of_le_of_lt (Nat.le_of_lt (lt_pow_len x)) (lt_pow_len y) (Nat.pow_pos W32_pos)
theorem len_sub (x y : Nat) : len (x - y) ≤ len x:=len_mono (Nat.sub_le _ _)
theorem len_pos {x : Nat} (h : 0 < x) : 0 < len x:=by unfold len; rw [dig_pos h]; simp
theorem len_eq_zero {x : Nat} (h : len x = 0) : x = 0:=by
 rcases Nat.eq_zero_or_pos x with h0 | h0
 ·exact h0
 ·have:=len_pos h0; omega
theorem pow_len_le {x : Nat} (h : 0 < x) : W32 ^ (len x - 1) ≤ x:=by
 rcases Nat.lt_or_ge x (W32 ^ (len x - 1)) with h1 | h1
 ·have:=len_le h1
  have:=len_pos h
  omega
 ·exact h1

theorem dig_of_len1 {x : Nat} (h : len x = 1) : dig x = [x]:=by
 have h0 : 0 < x:=by
  rcases Nat.eq_zero_or_pos x with h0 | h0
  ·subst h0; rw [len_zero] at h; omega
  ·exact h0
 have hl : x < W32:=by
  have:=lt_pow_len x
  rw [h] at this; simpa using this
 rw [dig_pos h0, Nat.mod_eq_of_lt hl, Nat.div_eq_of_lt hl, dig_zero]
theorem nth_dig (x i : Nat) : nth (dig x) i = x / W32 ^ i % W32:=by
  unfold nth
  induction i generalizing x with
  | zero =>
    rcases Nat.eq_zero_or_pos x with h0 | h0
    · subst h0; rw [dig_zero]; simp
    · rw [dig_pos h0]; simp
  | succ i ih =>
    rcases Nat.eq_zero_or_pos x with h0 | h0
    · subst h0; rw [dig_zero]; simp
    · rw [dig_pos h0, List.getD_cons_succ, ih, Nat.div_div_eq_div_mul, Nat.pow_succ, Nat.mul_comm W32]

theorem val_take (l : List Nat) (h : Small l) (i : Nat) : val (l.take i) = val l % W32 ^ i:=by
 rcases Nat.lt_or_ge i l.length with hi | hi
 ·have e : val l = val (l.take i) + W32 ^ i * val (l.drop i):=by
   have:=val_append (l.take i) (l.drop i)
   rwa [List.take_append_drop, List.length_take, Nat.min_eq_left (by omega)] at this
  have hlt:=val_lt (small_take h i)
  rw [List.length_take, Nat.min_eq_left (by omega)] at hlt
  rw [e, Nat.add_mul_mod_self_left, Nat.mod_eq_of_lt hlt]
 ·rw [List.take_of_length_le hi, Nat.mod_eq_of_lt]
  exact Nat.lt_of_lt_of_le (val_lt h) (Nat.pow_le_pow_right W32_pos hi)
theorem val_drop (l : List Nat) (h : Small l) (i : Nat) : val (l.drop i) = val l / W32 ^ i:=by
 rcases Nat.lt_or_ge i l.length with hi | hi
 ·have e : val l = val (l.take i) + W32 ^ i * val (l.drop i):=by
   have:=val_append (l.take i) (l.drop i)
   rwa [List.take_append_drop, List.length_take, Nat.min_eq_left (by omega)] at this
  have hlt:=val_lt (small_take h i)
  rw [List.length_take, Nat.min_eq_left (by omega)] at hlt
  rw [e, Nat.add_mul_div_left _ _ (Nat.pow_pos W32_pos), Nat.div_eq_of_lt hlt, Nat.zero_add]
 ·rw [List.drop_eq_nil_of_le hi, Nat.div_eq_of_lt]; rfl
  exact Nat.lt_of_lt_of_le (val_lt h) (Nat.pow_le_pow_right W32_pos hi)
def cmpI (a b : Int) : Int:=if a < b then -1 else if b < a then 1 else 0
theorem cmpI_lt {a b : Int} (h : a < b) : cmpI a b = -1:=by unfold cmpI; rw [if_pos h]
theorem cmpI_gt {a b : Int} (h : b < a) : cmpI a b = 1:=by unfold cmpI; rw [if_neg (by omega), if_pos h]
theorem cmpI_eq (a : Int) : cmpI a a = 0:=by unfold cmpI; simp
theorem cmpI_zero {a b : Int} (h : cmpI a b = 0) : a = b:=by
 rcases Int.lt_trichotomy a b with h1 | h1 | h1
 ·rw [cmpI_lt h1] at h; omega
 ·exact h1
 ·rw [cmpI_gt h1] at h; omega
theorem cmpI_range (a b : Int) : -1 ≤ cmpI a b ∧ cmpI a b ≤ 1:=by unfold cmpI; split <;> (try split) <;> omega
theorem cmpI_neg (a b : Int) : cmpI b a = -cmpI a b:=by unfold cmpI; split <;> split <;> (try split) <;> omega

theorem val_split (l : List Nat) (i : Nat) : val l = val (l.take i) + W32 ^ i * val (l.drop i):=by
 rcases Nat.lt_or_ge i l.length with hi | hi
 ·have:=val_append (l.take i) (l.drop i)
  rwa [List.take_append_drop, List.length_take, Nat.min_eq_left (by omega)] at this
 ·rw [List.take_of_length_le hi, List.drop_eq_nil_of_le hi, val_nil, Nat.mul_zero, Nat.add_zero]

theorem drop_eq_of_nth {a b : List Nat} {i : Nat} (hl : a.length = b.length) (h : ∀ j, i ≤ j → nth a j = nth b j) : a.drop i = b.drop i:=by
 apply List.ext_getElem?
 intro j
 rw [List.getElem?_drop, List.getElem?_drop]
 have:=h (i + j) (by omega)
 rw [nth_eq, nth_eq] at this
 rcases Nat.lt_or_ge (i + j) a.length with h1 | h1
 ·rw [List.getElem?_eq_getElem h1, List.getElem?_eq_getElem (by omega)] at this ⊢
  simpa using this
 ·rw [List.getElem?_eq_none h1, List.getElem?_eq_none (by omega)]

theorem val_take_lt (l : List Nat) (h : Small l) (i : Nat) : val (l.take i) < W32 ^ i:=
 Nat.lt_of_lt_of_le (val_lt (small_take h i)) (Nat.pow_le_pow_right W32_pos (by rw [List.length_take]; exact Nat.min_le_left _ _))
theorem val_lt_of_top {a b : List Nat} {i : Nat} (ha : Small a) (hl : a.length = b.length) (h : ∀ j, i + 1 ≤ j → nth a j = nth b j) (hlt : nth a i < nth b i) : val a < val b:=by
 rw [val_split a (i + 1), val_split b (i + 1), drop_eq_of_nth hl h, val_take_succ, val_take_succ]
 have h1:=val_take_lt a ha i
 have h2 : W32 ^ i * (nth a i + 1) ≤ W32 ^ i * nth b i:=Nat.mul_le_mul_left _ hlt
 rw [Nat.mul_add] at h2
 omega
theorem eq_of_nth {a b : List Nat} (hl : a.length = b.length) (h : ∀ j, nth a j = nth b j) : a = b:=by
 have:=drop_eq_of_nth (i:=0) hl (fun j _ => h j)
 simpa using this
theorem carry_step (s : List Nat) (i t : Nat) (hl : s.length = i) : val (s ++ [t % W32]) + W32 ^ (i + 1) * (t / W32) = val s + W32 ^ i * t:=by
 rw [val_append, hl, val_cons, val_nil, Nat.mul_zero, Nat.add_zero, Nat.pow_succ, Nat.mul_assoc, Nat.add_assoc, ← Nat.mul_add, Nat.mod_add_div]

theorem set_end (s : List Nat) (k x : Nat) {i : Nat} (hl : s.length = i) : (s ++ List.replicate (k + 1) 0).set i x = s ++ [x] ++ List.replicate k 0:=by
 subst hl
 rw [List.replicate_succ, List.set_append_right _ _ (Nat.le_refl _), Nat.sub_self, List.set_cons_zero, List.append_assoc]; rfl
def AddIs (x y : Nat) (s : List Nat) (i c : Nat) : Prop:=s.length = i ∧ Small s ∧ val s + W32 ^ i * c = val ((dig x).take i) + val ((dig y).take i)
theorem addIs_zero (x y : Nat) : AddIs x y [] 0 0:=⟨rfl, small_nil, by simp [val_nil]⟩
theorem addIs_step {x y i c u v : Nat} {s : List Nat} (h : AddIs x y s i c) (hu : nth (dig x) i = u) (hv : nth (dig y) i = v) : AddIs x y (s ++ [(c + u + v) % W32]) (i + 1) ((c + u + v) / W32):=by
 obtain ⟨h1, h2, h3⟩:=h
 refine ⟨by rw [List.length_append, h1]; rfl, small_append h2 (small_one (Nat.mod_lt _ W32_pos)), ?_⟩
 rw [carry_step s i _ h1, val_take_succ, val_take_succ, hu, hv, Nat.mul_add, Nat.mul_add]
 omega
theorem addIs_end {x y i c : Nat} {s : List Nat} (h : AddIs x y s i c) (hx : len x ≤ i) (hy : len y ≤ i) (hc : c < W32) : trim (s ++ [c]) = dig (x + y):=by
 obtain ⟨h1, h2, h3⟩:=h
 rw [List.take_of_length_le (by rw [length_dig]; exact hx), List.take_of_length_le (by rw [length_dig]; exact hy), val_dig, val_dig] at h3
 rw [← h3, ← dig_val (small_append h2 (small_one hc)), val_append, h1, val_cons, val_nil, Nat.mul_zero, Nat.add_zero]
def SubIs (x y : Nat) (s : List Nat) (i c : Nat) : Prop:=s.length = i ∧ Small s ∧ val s + val ((dig y).take i) = val ((dig x).take i) + W32 ^ i * c
theorem subIs_zero (x y : Nat) : SubIs x y [] 0 0:=⟨rfl, small_nil, by simp [val_nil]⟩
theorem subIs_step {x y i c u v d c' : Nat} {s : List Nat} (h : SubIs x y s i c) (hu : nth (dig x) i = u) (hv : nth (dig y) i = v) (hd : d < W32) (he : d + v + c = u + W32 * c') : SubIs x y (s ++ [d]) (i + 1) c':=by
 obtain ⟨h1, h2, h3⟩:=h
 refine ⟨by rw [List.length_append, h1]; rfl, small_append h2 (small_one hd), ?_⟩
 simp only [val_append, h1, val_cons, val_nil, Nat.mul_zero, Nat.add_zero, val_take_succ, hu, hv, Nat.pow_succ, Nat.mul_assoc]
 have h4 : W32 ^ i * (d + v + c) = W32 ^ i * (u + W32 * c'):=by rw [he]
 rw [Nat.mul_add, Nat.mul_add, Nat.mul_add] at h4
 omega
theorem subIs_end {x y i c : Nat} {s : List Nat} (h : SubIs x y s i c) (hx : len x ≤ i) (hy : y ≤ x) : trim s = dig (x - y):=by
 obtain ⟨h1, h2, h3⟩:=h
 have hly:=len_mono hy
 rw [List.take_of_length_le (l:=dig x) (by rw [length_dig]; exact hx), List.take_of_length_le (l:=dig y) (by rw [length_dig]; omega), val_dig, val_dig] at h3
 have hlt : val s < W32 ^ i:=by rw [← h1]; exact val_lt h2
 have hc : c = 0:=by
  rcases Nat.eq_zero_or_pos c with h0 | h0
  ·exact h0
  ·have : W32 ^ i * 1 ≤ W32 ^ i * c:=Nat.mul_le_mul_left _ h0
   omega
 rw [hc] at h3
 have : x - y = val s:=by omega
 rw [this, dig_val h2]

theorem nth_nil (j : Nat) : nth [] j = 0:=nth_of_ge (Nat.zero_le _)
theorem nth_cons_zero (x : Nat) (l : List Nat) : nth (x :: l) 0 = x:=rfl
theorem nth_cons_succ (x : Nat) (l : List Nat) (j : Nat) : nth (x :: l) (j + 1) = nth l j:=by simp [nth]
theorem val_zero_of_nth {a : List Nat} (h : ∀ j, nth a j = 0) : val a = 0:=by
  induction a with
  | nil => rfl
  | cons x a ih =>
    have h0:=h 0
    rw [nth_cons_zero] at h0
    rw [val_cons, h0, ih (fun j => by have:=h (j + 1); rwa [nth_cons_succ] at this), Nat.mul_zero]
theorem val_eq_of_nth {a b : List Nat} (h : ∀ j, nth a j = nth b j) : val a = val b:=by
  induction a generalizing b with
  | nil => rw [val_zero_of_nth (a:=b) (fun j => by rw [← h j, nth_nil])]; rfl
  | cons x a ih =>
    cases b with
    | nil => rw [val_zero_of_nth (a:=x :: a) (fun j => by rw [h j, nth_nil])]; rfl
    | cons y b =>
      have h0:=h 0
      rw [nth_cons_zero, nth_cons_zero] at h0
      rw [val_cons, val_cons, h0, ih (b:=b) (fun j => by have:=h (j + 1); rwa [nth_cons_succ, nth_cons_succ] at this)]
theorem nth_drop (l : List Nat) (i j : Nat) : nth (l.drop i) j = nth l (i + j):=by rw [nth_eq, nth_eq, List.getElem?_drop]
theorem val_lt_top {a b : List Nat} {i : Nat} (ha : Small a) (h : ∀ j, i + 1 ≤ j → nth a j = nth b j) (hlt : nth a i < nth b i) : val a < val b:=by
 have hd : val (a.drop (i + 1)) = val (b.drop (i + 1)):=val_eq_of_nth fun j => by rw [nth_drop, nth_drop]; exact h _ (by omega)
 rw [val_split a (i + 1), val_split b (i + 1), hd, val_take_succ, val_take_succ]
 have h1:=val_take_lt a ha i
 have h2 : W32 ^ i * (nth a i + 1) ≤ W32 ^ i * nth b i:=Nat.mul_le_mul_left _ hlt
 rw [Nat.mul_add] at h2
 omega

theorem length_trim {l : List Nat} (h : Small l) : (trim l).length = len (val l):=by rw [← dig_val h]; rfl
theorem trim_short {l : List Nat} {k : Nat} (h : Small l) (hl : l.length = k + 1) (hz : nth l k = 0) : (trim l).length ≤ k:=by
 rw [length_trim h]
 apply len_le
 have e:=val_take_succ l k
 rw [List.take_of_length_le (by omega), hz, Nat.mul_zero, Nat.add_zero] at e
 rw [e]
 exact val_take_lt l h k
theorem trim_full {l : List Nat} {k : Nat} (hl : l.length = k + 1) (hz : nth l k ≠ 0) : trim l = l:=by
 rw [trim_of (k:=k + 1) (by omega) (fun j h1 h2 => by omega) (fun _ => hz), List.take_of_length_le (by omega)]

theorem addIs_end2 {x y i c : Nat} {s : List Nat} (h : AddIs x y s i c) (hx : len x < i) (hy : len y < i) : trim s = dig (x + y):=by
 obtain ⟨h1, h2, h3⟩:=h
 rw [List.take_of_length_le (l:=dig x) (by rw [length_dig]; omega), List.take_of_length_le (l:=dig y) (by rw [length_dig]; omega), val_dig, val_dig] at h3
 have hlt : x + y < W32 ^ i:=by
  rw [← len_le_iff]
  have:=len_add x y
  omega
 have hc : c = 0:=by
  rcases Nat.eq_zero_or_pos c with h0 | h0
  ·exact h0
  ·have : W32 ^ i * 1 ≤ W32 ^ i * c:=Nat.mul_le_mul_left _ h0
   omega
 rw [hc, Nat.mul_zero, Nat.add_zero] at h3
 rw [← dig_val h2, h3]

theorem W32_pow (q : Nat) : W32 ^ q = 2 ^ (32 * q):=by rw [Nat.pow_mul]; rfl
def ShlIs (x q l : Nat) (p : List Nat) (j c : Nat) : Prop:=p.length = q + j ∧ Small p ∧ c < 2 ^ l ∧ val p + W32 ^ (q + j) * c = W32 ^ q * 2 ^ l * val ((dig x).take j)
theorem shlIs_zero (x q l : Nat) : ShlIs x q l (List.replicate q 0) 0 0:=⟨by simp, small_replicate q, Nat.pow_pos (by omega), by simp [val_nil, val_replicate]⟩
theorem shlIs_step {x q l j c u : Nat} {p : List Nat} (h : ShlIs x q l p j c) (hu : nth (dig x) j = u) (hu32 : u < W32) : ShlIs x q l (p ++ [(c + 2 ^ l * u) % W32]) (j + 1) ((c + 2 ^ l * u) / W32):=by
 obtain ⟨h1, h2, h3, h4⟩:=h
 refine ⟨by rw [List.length_append, h1]; rfl, small_append h2 (small_one (Nat.mod_lt _ W32_pos)), ?_, ?_⟩
 ·rw [Nat.div_lt_iff_lt_mul W32_pos]
  have : 2 ^ l * (u + 1) ≤ 2 ^ l * W32:=Nat.mul_le_mul_left _ hu32
  rw [Nat.mul_add] at this
  omega
 ·have h5:=carry_step p (q + j) (c + 2 ^ l * u) h1
  rw [show q + (j + 1) = q + j + 1 from by omega, h5, val_take_succ, hu, Nat.mul_add, Nat.mul_add, ← h4, Nat.pow_add]
  have : W32 ^ q * W32 ^ j * (2 ^ l * u) = W32 ^ q * 2 ^ l * (W32 ^ j * u):=by ac_rfl
  omega
theorem shlIs_end {x q l j c : Nat} {p : List Nat} (h : ShlIs x q l p j c) (hj : len x ≤ j) (hl : l ≤ 32) : trim (p ++ [c]) = dig (x * 2 ^ (32 * q + l)):=by
 obtain ⟨h1, h2, h3, h4⟩:=h
 have hc : c < W32:=Nat.lt_of_lt_of_le h3 (by unfold W32; exact Nat.pow_le_pow_right (n:=2) (by omega) hl)
 rw [List.take_of_length_le (by rw [length_dig]; exact hj), val_dig] at h4
 rw [← dig_val (small_append h2 (small_one hc)), val_append, h1, val_cons, val_nil, Nat.mul_zero, Nat.add_zero, h4, Nat.pow_add, ← W32_pow, Nat.mul_comm]
theorem nth_mid (p r : List Nat) (c : Nat) {i : Nat} (hi : p.length = i) : nth (p ++ [c] ++ r) i = c:=by
 subst hi
 rw [nth_eq, List.append_assoc, List.getElem?_append_right (Nat.le_refl _)]
 simp
theorem set_mid (p r : List Nat) (c d : Nat) {i : Nat} (hi : p.length = i) : (p ++ [c] ++ r).set i d = p ++ [d] ++ r:=by
 subst hi
 rw [List.append_assoc, List.set_append_right _ _ (Nat.le_refl _), Nat.sub_self]
 simp
theorem shl_or {l c u : Nat} (hl : l ≤ 32) (hc : c < 2 ^ l) : c ||| (u * 2 ^ l) % W32 = (c + 2 ^ l * u) % W32 ∧ (u * 2 ^ l) / W32 = (c + 2 ^ l * u) / W32:=by
 obtain ⟨m, hm⟩ : ∃ m, m = 32 - l:=⟨_, rfl⟩
 have hW : W32 = 2 ^ l * 2 ^ m:=by rw [← Nat.pow_add, show l + m = 32 from by omega]; rfl
 have e1 : (u * 2 ^ l) % W32 = 2 ^ l * (u % 2 ^ m):=by rw [hW, Nat.mul_comm u, Nat.mul_mod_mul_left]
 have e2 : (u * 2 ^ l) / W32 = u / 2 ^ m:=by rw [hW, Nat.mul_comm u, Nat.mul_div_mul_left _ _ (Nat.pow_pos (by omega))]
 have e3 : (c + 2 ^ l * u) / 2 ^ l = u:=by rw [Nat.add_mul_div_left _ _ (Nat.pow_pos (by omega)), Nat.div_eq_of_lt hc, Nat.zero_add]
 have e4 : (c + 2 ^ l * u) % 2 ^ l = c:=by rw [Nat.add_mul_mod_self_left, Nat.mod_eq_of_lt hc]
 refine ⟨?_, ?_⟩
 ·rw [e1, Nat.or_comm, ← Nat.two_pow_add_eq_or_of_lt hc, hW, Nat.mod_mul, e3, e4]
  omega
 ·rw [e2, hW, ← Nat.div_div_eq_div_mul, e3]
def DigsIs (y : Nat) (s : List Nat) (i : Nat) : Prop:=s.length = i ∧ Small s ∧ val s = y % W32 ^ i
theorem digsIs_zero (y : Nat) : DigsIs y [] 0:=⟨rfl, small_nil, by simp [val_nil, Nat.mod_one]⟩
theorem digsIs_step {y i d : Nat} {s : List Nat} (h : DigsIs y s i) (hd : d = y / W32 ^ i % W32) : DigsIs y (s ++ [d]) (i + 1):=by
 obtain ⟨h1, h2, h3⟩:=h
 refine ⟨by rw [List.length_append, h1]; rfl, small_append h2 (small_one (by rw [hd]; exact Nat.mod_lt _ W32_pos)), ?_⟩
 rw [val_append, h1, val_cons, val_nil, Nat.mul_zero, Nat.add_zero, h3, hd, Nat.pow_succ, Nat.mod_mul]
theorem digsIs_end {y i : Nat} {s : List Nat} (h : DigsIs y s i) (hy : y < W32 ^ i) : trim s = dig y:=by
 obtain ⟨h1, h2, h3⟩:=h
 rw [← dig_val h2, h3, Nat.mod_eq_of_lt hy]
theorem shr_digit {x q l i u v : Nat} (hl : l ≤ 32) (hu : nth (dig x) (q + i) = u) (hv : nth (dig x) (q + i + 1) = v) : (u + W32 * v) / 2 ^ l % W32 = x / 2 ^ (32 * q + l) / W32 ^ i % W32:=by
 rw [nth_dig] at hu hv
 have hz : x / W32 ^ (q + i + 1) = x / W32 ^ (q + i) / W32:=by rw [Nat.pow_succ, Nat.div_div_eq_div_mul]
 rw [hz] at hv
 have e : x / 2 ^ (32 * q + l) / W32 ^ i = x / W32 ^ (q + i) / 2 ^ l:=by
  rw [Nat.div_div_eq_div_mul, Nat.div_div_eq_div_mul, Nat.pow_add, ← W32_pow, Nat.pow_add]
  congr 1
  ac_rfl
 rw [e, ← hu, ← hv]
 generalize x / W32 ^ (q + i) = z
 obtain ⟨m, hm⟩ : ∃ m, m = 32 - l:=⟨_, rfl⟩
 have hW : W32 = 2 ^ l * 2 ^ m:=by rw [← Nat.pow_add, show l + m = 32 from by omega]; rfl
 have e2 : z % W32 + W32 * (z / W32 % W32) = z % (2 ^ l * (W32 * 2 ^ m)):=by
  have : z % (W32 * W32) = z % W32 + W32 * (z / W32 % W32):=Nat.mod_mul
  rw [← this]
  congr 1
  rw [hW]
  ac_rfl
 rw [e2, Nat.mod_mul_right_div_self, Nat.mod_mul_right_mod]
theorem shr_small {x q l n : Nat} (hx : len x ≤ n) (hq : q ≤ n) : x / 2 ^ (32 * q + l) < W32 ^ (n - q):=by
 have h1:=len_le_iff.1 hx
 rw [Nat.div_lt_iff_lt_mul (Nat.pow_pos (by omega)), Nat.pow_add, ← W32_pow]
 have e : W32 ^ n = W32 ^ (n - q) * W32 ^ q:=by rw [← Nat.pow_add, show n - q + q = n from by omega]
 rw [e] at h1
 have : W32 ^ (n - q) * (W32 ^ q * 1) ≤ W32 ^ (n - q) * (W32 ^ q * 2 ^ l):=Nat.mul_le_mul_left _ (Nat.mul_le_mul_left _ (Nat.pow_pos (by omega)))
 rw [Nat.mul_one] at this
 omega
theorem shr_zero {x q l n : Nat} (hx : len x ≤ n) (hq : n ≤ q) : x / 2 ^ (32 * q + l) = 0:=by
 apply Nat.div_eq_of_lt
 have h1:=len_le_iff.1 hx
 refine Nat.lt_of_lt_of_le h1 ?_
 rw [W32_pow]
 exact Nat.pow_le_pow_right (by omega) (by omega)
def blen (x : Nat) : Nat:=if x = 0 then 0 else Nat.log2 x + 1
theorem blen_zero : blen 0 = 0:=rfl
theorem lt_two_pow_blen (x : Nat) : x < 2 ^ blen x:=by
 unfold blen
 split
 ·rename_i h; rw [h]; exact Nat.pow_pos (by omega)
 ·exact Nat.lt_log2_self
theorem blen_pos {x : Nat} (h : 0 < x) : 0 < blen x:=by unfold blen; rw [if_neg (by omega)]; omega
theorem two_pow_blen_le {x : Nat} (h : 0 < x) : 2 ^ (blen x - 1) ≤ x:=by
 unfold blen
 rw [if_neg (by omega), Nat.add_sub_cancel]
 exact Nat.log2_self_le (by omega)
theorem blen_le {x n : Nat} (h : x < 2 ^ n) : blen x ≤ n:=by
 rcases Nat.eq_zero_or_pos x with h0 | h0
 ·subst h0; rw [blen_zero]; omega
 ·rcases Nat.lt_or_ge n (blen x) with h1 | h1
  ·have h2:=two_pow_blen_le h0
   have h3:=Nat.pow_le_pow_right (n:=2) (by omega) (show n ≤ blen x - 1 by omega)
   omega
  ·exact h1
theorem blen_le_iff {x n : Nat} : blen x ≤ n ↔ x < 2 ^ n:=⟨fun h => Nat.lt_of_lt_of_le (lt_two_pow_blen x) (Nat.pow_le_pow_right (by omega) h), blen_le⟩
theorem blen_of {x n : Nat} (h1 : x < 2 ^ (n + 1)) (h2 : 2 ^ n ≤ x) : blen x = n + 1:=by
 have h3:=blen_le h1
 rcases Nat.lt_or_ge (blen x) (n + 1) with h4 | h4
 ·have:=blen_le_iff.1 (show blen x ≤ n by omega)
  omega
 ·omega
theorem blen_high {lo top k : Nat} (h : lo < 2 ^ k) (ht : 0 < top) : blen (lo + 2 ^ k * top) = k + blen top:=by
 have h1:=lt_two_pow_blen top
 have h2:=two_pow_blen_le ht
 have h3:=blen_pos ht
 obtain ⟨n, hn⟩ : ∃ n, blen top = n + 1:=⟨blen top - 1, by omega⟩
 rw [hn] at h1 h2 ⊢
 rw [Nat.add_sub_cancel] at h2
 rw [← Nat.add_assoc]
 apply blen_of
 ·have : 2 ^ k * (top + 1) ≤ 2 ^ k * 2 ^ (n + 1):=Nat.mul_le_mul_left _ h1
  rw [Nat.mul_add] at this
  rw [Nat.add_assoc, Nat.pow_add]
  omega
 ·rw [Nat.pow_add]
  have : 2 ^ k * 2 ^ n ≤ 2 ^ k * top:=Nat.mul_le_mul_left _ h2
  omega
theorem blen_half {x : Nat} (h : 0 < x) : blen x = 1 + blen (x / 2):=by
 rcases Nat.lt_or_ge x 2 with h1 | h1
 ·obtain rfl : x = 1:=by omega
  rfl
 ·have e : x = x % 2 + 2 ^ 1 * (x / 2):=by omega
  have:=blen_high (lo:=x % 2) (top:=x / 2) (k:=1) (by omega) (by omega)
  rw [← e] at this
  exact this
def bitB (x i : Nat) : Bool:=decide (x / 2 ^ i % 2 = 1)
theorem bitB_high {x i : Nat} (h : blen x ≤ i) : bitB x i = false:=by
 unfold bitB
 rw [Nat.div_eq_of_lt (blen_le_iff.1 h)]; rfl
theorem bitB_top {x : Nat} (h : 0 < x) : bitB x (blen x - 1) = true:=by
 unfold bitB
 have h1:=two_pow_blen_le h
 have h2:=lt_two_pow_blen x
 have h3:=blen_pos h
 have e : x / 2 ^ (blen x - 1) = 1:=by
  rw [Nat.div_eq_iff (Nat.pow_pos (by omega))]
  have : 2 ^ blen x = 2 * 2 ^ (blen x - 1):=by
   rw [← Nat.pow_succ']
   congr 1
   omega
  omega
 rw [e]; rfl
theorem bitB_dig (x q l : Nat) (hl : l < 32) : bitB x (32 * q + l) = decide (nth (dig x) q / 2 ^ l % 2 = 1):=by
 unfold bitB
 rw [nth_dig, Nat.pow_add, ← W32_pow, ← Nat.div_div_eq_div_mul]
 congr 1
 obtain ⟨m, hm⟩ : ∃ m, m = 31 - l:=⟨_, rfl⟩
 have hW : W32 = 2 ^ l * (2 * 2 ^ m):=by rw [← Nat.pow_succ', ← Nat.pow_add, show l + (m + 1) = 32 from by omega]; rfl
 have : x / W32 ^ q % W32 / 2 ^ l % 2 = x / W32 ^ q / 2 ^ l % 2:=by
  generalize x / W32 ^ q = z
  rw [hW, Nat.mod_mul_right_div_self, Nat.mod_mul_right_mod]
 rw [this]
def tz (x : Nat) : Nat:=if x = 0 then 0 else if x % 2 = 1 then 0 else 1 + tz (x / 2)
termination_by x
decreasing_by omega
theorem tz_zero : tz 0 = 0:=by rw [tz]; simp
theorem tz_mul (k m : Nat) : tz (2 ^ k * (2 * m + 1)) = k:=by
  induction k with
  | zero => rw [tz, if_neg (by omega), if_pos (by omega)]
  | succ k ih =>
    have hp : 0 < 2 ^ k * (2 * m + 1):=Nat.mul_pos (Nat.pow_pos (by omega)) (by omega)
    rw [tz, Nat.pow_succ, Nat.mul_comm (2 ^ k) 2, Nat.mul_assoc, if_neg (by omega), if_neg (by omega), Nat.mul_div_cancel_left _ (by omega : 0 < 2), ih, Nat.add_comm]
theorem tz_form {x : Nat} (h : 0 < x) : ∃ m, x = 2 ^ tz x * (2 * m + 1):=by
  induction x using Nat.strongRecOn with
  | ind x ih =>
    rw [tz, if_neg (by omega)]
    by_cases h1 : x % 2 = 1
    · rw [if_pos h1]; exact ⟨x / 2, by omega⟩
    · rw [if_neg h1]
      obtain ⟨m, hm⟩:=ih (x / 2) (by omega) (by omega)
      refine ⟨m, ?_⟩
      rw [Nat.pow_add, Nat.mul_assoc, ← hm]
      omega
theorem bitB_tz {x : Nat} (h : 0 < x) : bitB x (tz x) = true:=by
 obtain ⟨m, hm⟩:=tz_form h
 unfold bitB
 have : x / 2 ^ tz x = 2 * m + 1:=by
  have h2:=Nat.mul_div_cancel_left (2 * m + 1) (Nat.pow_pos (n:=tz x) (by omega : 0 < 2))
  rwa [← hm] at h2
 rw [this]
 simp
theorem tz_of {x k : Nat} (h1 : ∀ j, j < k → bitB x j = false) (h2 : bitB x k = true) : tz x = k:=by
 have hx : 0 < x:=by
  rcases Nat.eq_zero_or_pos x with h0 | h0
  ·subst h0; simp [bitB] at h2
  ·exact h0
 have hb:=bitB_tz hx
 rcases Nat.lt_trichotomy (tz x) k with h | h | h
 ·rw [h1 _ h] at hb; cases hb
 ·exact h
 ·obtain ⟨m, hm⟩:=tz_form hx
  unfold bitB at h2
  have e : x / 2 ^ k = 2 * (2 ^ (tz x - k - 1) * (2 * m + 1)):=by
   have e1 : x = 2 ^ k * (2 * (2 ^ (tz x - k - 1) * (2 * m + 1))):=by
    have e2 : 2 ^ tz x = 2 ^ k * (2 * 2 ^ (tz x - k - 1)):=by
     rw [← Nat.pow_succ', ← Nat.pow_add]
     congr 1
     omega
    rw [← Nat.mul_assoc 2, ← Nat.mul_assoc, ← e2]
    exact hm
   have h3:=Nat.mul_div_cancel_left (2 * (2 ^ (tz x - k - 1) * (2 * m + 1))) (Nat.pow_pos (n:=k) (by omega : 0 < 2))
   rwa [← e1] at h3
  rw [e] at h2
  simp at h2
theorem tz_words {x j u : Nat} (h0 : ∀ i, i < j → nth (dig x) i = 0) (hu : nth (dig x) j = u) (hpos : 0 < u) : tz x = 32 * j + tz u:=by
 have hlt : u < 2 ^ 32:=by rw [← hu]; exact (small_dig x).get j
 have htu : tz u < 32:=by
  obtain ⟨m, hm⟩:=tz_form hpos
  have h1 : 2 ^ tz u * 1 ≤ u:=by
   have : 2 ^ tz u * 1 ≤ 2 ^ tz u * (2 * m + 1):=Nat.mul_le_mul_left _ (by omega)
   omega
  exact (Nat.pow_lt_pow_iff_right (by omega : 1 < 2)).1 (by omega)
 apply tz_of
 ·intro i hi
  obtain ⟨q, l, hl, rfl⟩ : ∃ q l, l < 32 ∧ i = 32 * q + l:=⟨i / 32, i % 32, by omega, by omega⟩
  rw [bitB_dig x q l hl]
  rcases Nat.lt_or_ge q j with h | h
  ·rw [h0 q h]; simp
  ·obtain rfl : q = j:=by omega
   rw [hu]
   have hl2 : l < tz u:=by omega
   rcases hb : bitB u l with _ | _
   ·exact hb
   ·have : tz u ≤ l:=by
     rcases Nat.lt_or_ge l (tz u) with h3 | h3
     ·exfalso
      obtain ⟨m, hm⟩:=tz_form hpos
      unfold bitB at hb
      have e2 : 2 ^ tz u = 2 ^ l * (2 * 2 ^ (tz u - l - 1)):=by
       rw [← Nat.pow_succ', ← Nat.pow_add]
       congr 1
       omega
      have e1 : u = 2 ^ l * (2 * (2 ^ (tz u - l - 1) * (2 * m + 1))):=by
       rw [← Nat.mul_assoc 2, ← Nat.mul_assoc, ← e2]
       exact hm
      have h4:=Nat.mul_div_cancel_left (2 * (2 ^ (tz u - l - 1) * (2 * m + 1))) (Nat.pow_pos (n:=l) (by omega : 0 < 2))
      rw [← e1] at h4
      rw [h4] at hb
      simp at hb
     ·exact h3
    omega
 ·rw [bitB_dig x j _ htu, hu]
  exact bitB_tz hpos

theorem shlIs_end2 {x q l j c : Nat} {p : List Nat} (h : ShlIs x q l p j c) (hj : len x < j) (hl : l ≤ 32) : trim p = dig (x * 2 ^ (32 * q + l)):=by
 obtain ⟨h1, h2, h3, h4⟩:=h
 rw [List.take_of_length_le (by rw [length_dig]; omega), val_dig] at h4
 have hx:=len_le_iff.1 (show len x ≤ j - 1 by omega)
 have hle : 2 ^ l ≤ W32:=by unfold W32; exact Nat.pow_le_pow_right (n:=2) (by omega) hl
 have hlt : W32 ^ q * 2 ^ l * x < W32 ^ (q + j):=by
  have e : W32 ^ (q + j) = W32 ^ q * W32 * W32 ^ (j - 1):=by
   rw [← Nat.pow_succ, ← Nat.pow_add]
   congr 1
   omega
  rw [e]
  refine Nat.lt_of_le_of_lt (Nat.mul_le_mul_right x (Nat.mul_le_mul_left _ hle)) ?_
  exact Nat.mul_lt_mul_of_pos_left hx (Nat.mul_pos (Nat.pow_pos W32_pos) W32_pos)
 have hc : c = 0:=by
  rcases Nat.eq_zero_or_pos c with h0 | h0
  ·exact h0
  ·have : W32 ^ (q + j) * 1 ≤ W32 ^ (q + j) * c:=Nat.mul_le_mul_left _ h0
   omega
 rw [hc, Nat.mul_zero, Nat.add_zero] at h4
 rw [← dig_val h2, h4, Nat.pow_add, ← W32_pow, Nat.mul_comm]
theorem shl_or64 {l c u : Nat} (hc : c < 2 ^ l) : u * 2 ^ l ||| c = c + 2 ^ l * u:=by
 rw [Nat.mul_comm u, ← Nat.two_pow_add_eq_or_of_lt hc, Nat.add_comm]
theorem blen_of_bits {x k : Nat} (h : ∀ j, k ≤ j → bitB x j = false) (hk : 0 < k → bitB x (k - 1) = true) : blen x = k:=by
 rcases Nat.lt_trichotomy (blen x) k with h1 | h1 | h1
 ·have:=hk (by omega)
  rw [bitB_high (by omega)] at this
  cases this
 ·exact h1
 ·have hp : 0 < x:=by
   rcases Nat.eq_zero_or_pos x with h0 | h0
   ·subst h0; rw [blen_zero] at h1; omega
   ·exact h0
  have:=bitB_top hp
  rw [h _ (by omega)] at this
  cases this
theorem blen_le_len (x : Nat) : blen x ≤ 32 * len x:=by
 rw [blen_le_iff, ← W32_pow]
 exact lt_pow_len x
theorem zero_of_bits {x : Nat} (h : ∀ j, bitB x j = false) : x = 0:=by
 rcases Nat.eq_zero_or_pos x with h0 | h0
 ·exact h0
 ·have:=bitB_top h0
  rw [h] at this
  cases this
def bitI (x : Nat) (i : Int) : Bool:=if i < 0 then false else bitB x i.toNat
theorem bitI_nat (x k : Nat) : bitI x (k : Int) = bitB x k:=by unfold bitI; rw [if_neg (by omega), Int.toNat_natCast]
theorem bitI_neg (x : Nat) {i : Int} (h : i < 0) : bitI x i = false:=by unfold bitI; rw [if_pos h]

end Go.Proofs.YtiddbhhhmeopeaaGreatDoor


/- Words for memory: a slice of 32-bit numbers that is read; one that the call made; the number that it stands for. -/
namespace Go.Proofs.YtiddbhhhmeopeaaGreatDoor
set_option maxHeartbeats 64000000
open Go.RowKit
set_option linter.unusedVariables false
set_option linter.unusedSimpArgs false
set_option maxRecDepth 100000

def u32s (l : List Nat) : List Value:=l.map fun n : Nat => Value.int .u32 (n : Int)
theorem length_u32s (l : List Nat) : (u32s l).length = l.length:=by simp [u32s]
theorem u32s_append (a b : List Nat) : u32s (a ++ b) = u32s a ++ u32s b:=by simp [u32s]
theorem u32s_one (x : Nat) : u32s [x] = [Value.int .u32 (x : Int)]:=rfl
theorem u32s_take (l : List Nat) (k : Nat) : (u32s l).take k = u32s (l.take k):=by simp [u32s]
theorem u32s_set (l : List Nat) (j x : Nat) : (u32s l).set j (.int .u32 (x : Int)) = u32s (l.set j x):=by simp [u32s]
theorem u32s_get {l : List Nat} {j : Nat} (h : j < l.length) : (u32s l)[j]? = some (.int .u32 (nth l j : Nat)):=by
 simp [u32s, h, nth_eq]
theorem u32s_oneCell (l : List Nat) : ∀ u ∈ u32s l, u.oneCell' = true:=by
 intro u hu
 simp only [u32s, List.mem_map] at hu
 obtain ⟨n, _, rfl⟩:=hu
 rfl
theorem u32s_zeros (k : Nat) : u32s (List.replicate k 0) = List.replicate k (.int .u32 0):=by simp [u32s]

theorem or_digit (hi lo : Nat) (h1 : hi < 4294967296) (h2 : lo < 4294967296) : bits .or .u64 ((hi : Int) * 4294967296) (lo : Int) = ((lo + 4294967296 * hi : Nat) : Int):=by
 have e : (hi : Int) * 4294967296 = ((hi * 4294967296 : Nat) : Int):=by omega
 rw [e, u64_or_nat _ _ (by omega) (by omega)]
 have:=Nat.two_pow_add_eq_or_of_lt (i:=32) (b:=lo) (by omega) hi
 rw [Nat.mul_comm] at this
 rw [show hi * 4294967296 = hi * 2 ^ 32 from rfl, ← this]
 omega
theorem or_digit' (hi lo : Nat) (h1 : hi < 4294967296) (h2 : lo < 4294967296) : bits .or .u64 (lo : Int) ((hi : Int) * 4294967296) = ((lo + 4294967296 * hi : Nat) : Int):=by
 rw [← or_digit hi lo h1 h2]
 have e : (hi : Int) * 4294967296 = ((hi * 4294967296 : Nat) : Int):=by omega
 rw [e, u64_or_nat _ _ (by omega) (by omega), u64_or_nat _ _ (by omega) (by omega), Nat.or_comm]

theorem ofInt32 (a : Nat) (ha : a < 4294967296) : (BitVec.ofInt 32 (a : Int)).toNat = a:=by
 rw [BitVec.ofInt_natCast, BitVec.toNat_ofNat]; exact Nat.mod_eq_of_lt (by omega)
theorem or_u32 (a b : Nat) (ha : a < 4294967296) (hb : b < 4294967296) : bits .or .u32 (a : Int) (b : Int) = ((a ||| b : Nat) : Int):=by
 have hx : a ||| b < 2 ^ 32:=Nat.or_lt_two_pow (by omega) (by omega)
 show IntKind.u32.wrap ((BitVec.ofInt 32 (a : Int) ||| BitVec.ofInt 32 (b : Int)).toNat : Int) = _
 rw [BitVec.toNat_or, ofInt32 a ha, ofInt32 b hb, IntKind.wrap_u32]
 omega
theorem wrap_shl {u l : Nat} (hu : u < 4294967296) (hl : l < 32) : IntKind.u64.wrap ((u : Int) * 2 ^ l) = ((u * 2 ^ l : Nat) : Int):=by
 have h : u * 2 ^ l < 4294967296 * 4294967296:=
  Nat.lt_of_lt_of_le (Nat.mul_lt_mul_of_pos_right hu (Nat.pow_pos (by omega))) (Nat.mul_le_mul_left _ (Nat.le_of_lt (Nat.pow_lt_pow_right (a:=2) (by omega) hl)))
 have e : (u : Int) * 2 ^ l = ((u * 2 ^ l : Nat) : Int):=by rw [Int.natCast_mul, Int.natCast_pow]; rfl
 rw [e, IntKind.wrap_u64]
 omega

theorem sub_low {e : Int} (h1 : -4294967296 ≤ e) (h2 : e < 0) : IntKind.u64.wrap e % 4294967296 = e + 4294967296:=by rw [IntKind.wrap_u64]; omega
theorem sub_top {e : Int} (h1 : -4294967296 ≤ e) (h2 : e < 0) : IntKind.u64.wrap e / 9223372036854775808 = 1:=by rw [IntKind.wrap_u64]; omega
theorem sub_two (v : Nat) : IntKind.u64.wrap (IntKind.u64.wrap (-1) - (v : Int)) = IntKind.u64.wrap (-1 - (v : Int)):=by simp only [IntKind.wrap_u64]; omega
structure Sl (w : World) (A : Option Addr) (n c : Nat) (l : List Nat) : Prop where
 len : l.length = n
 cap : n ≤ c
 most : c ≤ maxLen
 small : Small l
 place : 0 < n → ∃ b off, A = some ⟨b, off, none⟩ ∧ b < w.heap.size ∧ ∀ j, j < n → w.cell? ⟨b, off + j, none⟩ = some (.int .u32 (nth l j : Nat))
theorem Sl.get {w w' : World} {A : Option Addr} {n c : Nat} {l : List Nat} (h : Sl w A n c l) (hb : Below w.heap.size w w') {k : Nat} (hk : k < n) :
  ∃ b off x, A = some ⟨b, off, none⟩ ∧ b < w.heap.size ∧ w'.cell? ⟨b, off + k, none⟩ = some (.int .u32 (x : Nat)) ∧ Hid (nth l k = x) ∧ x < 4294967296:=by
 obtain ⟨b, off, h1, h2, h3⟩:=h.place (by omega)
 exact ⟨b, off, nth l k, h1, h2, (hb.cell (p:=⟨b, off + k, none⟩) h2).trans (h3 k hk), show _ = _ from rfl, h.small.get k⟩
theorem Sl.mono {w w' : World} {A : Option Addr} {n c : Nat} {l : List Nat} (h : Sl w A n c l) (hb : Below w.heap.size w w') : Sl w' A n c l:=
 ⟨h.len, h.cap, h.most, h.small, fun hn => by
  obtain ⟨b, off, h1, h2, h3⟩:=h.place hn
  exact ⟨b, off, h1, Nat.lt_of_lt_of_le h2 hb.size, fun j hj => (hb.cell (p:=⟨b, off + j, none⟩) h2).trans (h3 j hj)⟩⟩
theorem Sl.le63 {w : World} {A : Option Addr} {n c : Nat} {l : List Nat} (h : Sl w A n c l) : n ≤ 9223372036854775807:=by
 have:=h.cap
 have:=h.most
 unfold maxLen at this
 omega
theorem Sl.nil (w : World) : Sl w none 0 0 []:=⟨rfl, Nat.le_refl _, Nat.zero_le _, small_nil, fun h => by omega⟩
theorem Sl.takeN {w : World} {A : Option Addr} {n c : Nat} {l : List Nat} (h : Sl w A n c l) {k : Nat} (hk : k ≤ n) : Sl w A k c (l.take k):=
 ⟨by rw [List.length_take, h.len]; omega, Nat.le_trans hk h.cap, h.most, small_take h.small k, fun hn => by
  obtain ⟨b, off, h1, h2, h3⟩:=h.place (by omega)
  refine ⟨b, off, h1, h2, fun j hj => ?_⟩
  rw [h3 j (by omega)]
  have e : nth (l.take k) j = nth l j:=by simp [nth_eq, hj]
  rw [e]⟩
theorem sl_of_ints {w : World} {a : Addr} {n c : Nat} {zs : List Int} (hl : n ≤ c) (hm : c ≤ maxLen) (hz : zs.length = c) (hcell : ∀ i, i < zs.length → w.cell? (a.add i) = some (.int .u32 (zs.getD i 0))) (hwz : ∀ x ∈ zs, (Lit.int .u32 x).wf = true) :
  Sl w (some a) n c ((zs.take n).map Int.toNat):=by
 have hb : ∀ x ∈ zs, 0 ≤ x ∧ x ≤ 4294967295:=fun x hx => bounds_u32 (hwz x hx)
 refine ⟨by rw [List.length_map, List.length_take]; omega, hl, hm, ?_, fun hn => ?_⟩
 ·intro y hy
  obtain ⟨x, hx, rfl⟩:=List.mem_map.1 hy
  have:=hb x (List.mem_of_mem_take hx)
  unfold W32
  omega
 ·obtain ⟨b, off, rfl, hc⟩:=ints_at hcell (by omega)
  refine ⟨b, off, rfl, ?_, fun j hj => ?_⟩
  ·exact World.block_lt_of_cell? w ⟨b, off + 0, none⟩ (hc 0 (by omega))
  ·rw [hc j (by omega)]
   have hjz : j < zs.length:=by omega
   have e : (nth ((zs.take n).map Int.toNat) j : Int) = zs.getD j 0:=by
    have h0:=(hb zs[j] (List.getElem_mem hjz)).1
    rw [nth_eq, List.getElem?_map, List.getElem?_take_of_lt hj, List.getElem?_eq_getElem hjz, List.getD_eq_getElem?_getD, List.getElem?_eq_getElem hjz]
    show ((zs[j].toNat : Nat) : Int) = zs[j]
    omega
   rw [e]
def Own (w : World) (base : Nat) (v : Value) (l : List Nat) : Prop:=w.ownsRow base 140 1 v l.length (u32s l) ∧ Small l

theorem Own.small {w : World} {base : Nat} {v : Value} {l : List Nat} (h : Own w base v l) : Small l:=h.2
theorem Own.nil (w : World) (base : Nat) : Own w base (.slice none 0 0) []:=⟨World.ownsRow_nil w base 140 1, small_nil⟩
theorem Own.base_le {w : World} {base base' : Nat} {v : Value} {l : List Nat} (h : Own w base v l) (hb : base' ≤ base) : Own w base' v l:=by
 obtain ⟨⟨h1, h2⟩, hs⟩:=h
 refine ⟨⟨h1, ?_⟩, hs⟩
 rcases h2 with h2 | ⟨g, cap, cur, e1, e2, e3⟩
 ·exact .inl h2
 ·exact .inr ⟨g, cap, cur, e1, Nat.le_trans hb e2, e3⟩
theorem Own.form {w : World} {base : Nat} {v : Value} {l : List Nat} (h : Own w base v l) :
  ∃ A c, v = .slice A l.length c ∧ Sl w A l.length c l ∧ (A = none ∧ l = [] ∨ ∃ g, A = some ⟨g, 0, none⟩ ∧ base ≤ g ∧ g < w.heap.size):=by
 have hown:=h.1
 obtain ⟨⟨h1, h2⟩, hs⟩:=h
 rcases h2 with ⟨rfl, h0⟩ | ⟨g, cap, cur, rfl, hb, hg, hc, hm, hsz, htake⟩
 ·have : l = []:=List.eq_nil_of_length_eq_zero h0
  subst this
  exact ⟨none, 0, rfl, Sl.nil w, .inl ⟨rfl, rfl⟩⟩
 ·have hlt : g < w.heap.size:=(hown.lt g rfl).2
  refine ⟨some ⟨g, 0, none⟩, cap, rfl, ⟨rfl, hc, hm, hs, fun _ => ⟨g, 0, rfl, hlt, fun j hj => ?_⟩⟩, .inr ⟨g, rfl, hb, hlt⟩⟩
  rw [Nat.zero_add, hown.cellAt j (by omega), u32s_get hj]
theorem Own.sl {w : World} {base : Nat} {A : Option Addr} {n c : Nat} {l : List Nat} (h : Own w base (.slice A n c) l) : Sl w A n c l:=by
 obtain ⟨A', c', e, h1, _⟩:=h.form
 injection e with e1 e2 e3
 subst e1; subst e2; subst e3
 exact h1
theorem Own.blockGe {w : World} {base : Nat} {v : Value} {l : List Nat} (h : Own w base v l) : ∀ k, v.ownBlock = some k → base ≤ k:=fun k hk => (h.1.lt k hk).1
theorem Own.grown {w w' : World} {base : Nat} {v : Value} {l : List Nat} {row : Option Nat} (h : Own w base v l) (hg : w.grownBy w' row) (hne : v.ownBlock = none ∨ v.ownBlock ≠ row) : Own w' base v l:=
 ⟨h.1.kept hg hne, h.2⟩
theorem Own.alloc {w : World} {base : Nat} {v : Value} {l : List Nat} (h : Own w base v l) (o : Obj) : Own (w.alloc o) base v l:=⟨h.1.alloc o, h.2⟩
theorem Own.below {w w' : World} {base : Nat} {v : Value} {l : List Nat} (h : Own w base v l) (hb : Below w.heap.size w w') : Own w' base v l:=by
 have hlt:=h.1.lt
 obtain ⟨⟨h1, h2⟩, hs⟩:=h
 refine ⟨⟨h1, ?_⟩, hs⟩
 rcases h2 with h2 | ⟨g, cap, cur, e1, e2, e3, e4⟩
 ·exact .inl h2
 ·refine .inr ⟨g, cap, cur, e1, e2, ?_, e4⟩
  rw [hb.block g (hlt g (by rw [e1]; rfl)).2]; exact e3
theorem Own.cut {w : World} {base : Nat} {A : Option Addr} {n c : Nat} {l : List Nat} (h : Own w base (.slice A n c) l) {k : Nat} (hk : k ≤ n) : Own w base (.slice A k c) (l.take k):=by
 have hl : l.length = n:=h.sl.len
 obtain ⟨⟨h1, h2⟩, hs⟩:=h
 have hlen : (l.take k).length = k:=by rw [List.length_take]; omega
 refine ⟨⟨by rw [length_u32s]; omega, ?_⟩, small_take hs k⟩
 rw [hlen]
 rcases h2 with ⟨e, h0⟩ | ⟨g, cap, cur, e, hb, hg, hc, hm, hsz, htake⟩
 ·injection e with e1 e2 e3
  subst e1; subst e2; subst e3
  have : k = 0:=by omega
  subst this
  exact .inl ⟨rfl, rfl⟩
 ·injection e with e1 e2 e3
  subst e1; subst e3
  refine .inr ⟨g, c, cur, rfl, hb, hg, by omega, hm, hsz, ?_⟩
  rw [← u32s_take, ← htake, List.take_take]
  congr 1
  omega
theorem Own.store {w : World} {base : Nat} {g n c : Nat} {l : List Nat} (h : Own w base (.slice (some ⟨g, 0, none⟩) n c) l) {j x : Nat} (hx : x < W32) :
  Own (w.setCell ⟨g, j, none⟩ (.int .u32 (x : Int))) base (.slice (some ⟨g, 0, none⟩) n c) (l.set j x):=by
 have hl:=h.sl.len
 obtain ⟨h1, hs⟩:=h
 rw [hl] at h1
 refine ⟨?_, ?_⟩
 ·rw [List.length_set, hl, ← u32s_set]
  exact (h1.stored j _).1
 ·intro y hy
  rcases List.mem_or_eq_of_mem_set hy with hy | rfl
  ·exact hs y hy
  ·exact hx
theorem Own.free {w : World} {base : Nat} {g n c : Nat} {l : List Nat} (h : Own w base (.slice (some ⟨g, 0, none⟩) n c) l) (j : Nat) : w.frozen? ⟨g, j, none⟩ = false:=by
 have h1:=h.1
 rw [h.sl.len] at h1
 exact h1.frozenAt j
theorem Own.cell {w : World} {base : Nat} {g n c : Nat} {l : List Nat} (h : Own w base (.slice (some ⟨g, 0, none⟩) n c) l) {j : Nat} (hj : j < n) :
  ∃ x, w.cell? ⟨g, j, none⟩ = some (.int .u32 (x : Nat)) ∧ Hid (nth l j = x) ∧ x < 4294967296:=by
 have hs:=h.sl
 obtain ⟨b, off, e, _, hc⟩:=hs.place (by omega)
 injection e with e
 injection e with e1 e2
 subst e1; subst e2
 have:=hc j hj
 rw [Nat.zero_add] at this
 exact ⟨_, this, show _ = _ from rfl, hs.small.get j⟩
theorem quietA {P : Program} {f : FuncId} {args : Array Value} {w : World} {a n : Nat} {v : Value}
  (h : Calls P f args (w.drewN (a + n)) fun e w' => e = .returned v ∧ w.drewN (a + n) = w') :
  Calls P f args (w.drewN (a + n)) fun e w'' => e = .returned v ∧ ∃ m, w'' = w.drewN (a + m):=
 h.mono fun _ _ ⟨he, hm⟩ => ⟨he, n, hm.symm⟩
theorem belowN {B : Nat} {a w : World} (h : Below B a w) (n : Nat) : Below B a (w.drewN n):=⟨h.os, h.tape, h.output, h.size, h.block⟩
def IsN (w : World) (v : Value) (x : Nat) : Prop:=∃ A n c, v = .slice A n c ∧ Sl w A n c (dig x)
theorem IsN.mono {w w' : World} {v : Value} {x : Nat} (h : IsN w v x) (hb : Below w.heap.size w w') : IsN w' v x:=by
 obtain ⟨A, n, c, e, hs⟩:=h
 exact ⟨A, n, c, e, hs.mono hb⟩
theorem IsN.zero (w : World) : IsN w (.slice none 0 0) 0:=⟨none, 0, 0, rfl, by rw [dig_zero]; exact Sl.nil w⟩
structure Out (w w' : World) (v : Value) (l : List Nat) : Prop where
 own : Own w' w.heap.size v l
 below : Below w.heap.size w w'
theorem Out.isN {w w' : World} {v : Value} {x : Nat} (h : Out w w' v (dig x)) : IsN w' v x:=by
 obtain ⟨A, c, e, hs, _⟩:=h.own.form
 exact ⟨A, _, c, e, hs⟩

theorem Out.slice {w w' : World} {v : Value} {l : List Nat} (o : Out w w' v l) : ∃ A n c, v = .slice A n c:=by
 obtain ⟨A, c, e, _⟩:=o.own.form
 exact ⟨A, _, c, e⟩

def RetL (w : World) (l : List Nat) (e : Ending) (w' : World) : Prop:=∃ v, e = .returned v ∧ Out w w' v l
def RetN (w : World) (x : Nat) (e : Ending) (w' : World) : Prop:=RetL w (dig x) e w'
def RetNB (w : World) (x : Nat) (b : Bool) (e : Ending) (w' : World) : Prop:=∃ v, e = .returned (.tuple #[v, .bool b]) ∧ Out w w' v (dig x)
theorem info_u32 : (Tryz.prog.info? 140).map (fun i => (i.zero, i.size, i.bytes)) = some (some (.int .u32 0), 1, 4):=by kernel_rfl

theorem Own.row {w : World} {base : Nat} {g n : Nat} {l : List Nat} (h : Own w base (.slice (some ⟨g, 0, none⟩) n n) l) : w.heap[g]? = some (.cells (u32s l).toArray 140 (0, 0)) ∧ base ≤ g:=by
 have hl:=h.sl.len
 obtain ⟨⟨h1, h2⟩, hs⟩:=h
 rcases h2 with ⟨e, h0⟩ | ⟨g', cap, cur, e, hb, hg, hc, hm, hsz, htake⟩
 ·cases e
 ·injection e with e1 e2 e3
  injection e1 with e1
  injection e1 with e1
  subst e1; subst e3
  have : cur = (u32s l).toArray:=by
   rw [← htake, hl, Nat.mul_one, List.take_of_length_le (by rw [Array.length_toList]; omega)]
  rw [← this]
  exact ⟨hg, hb⟩
theorem own_of_row {w : World} {base : Nat} {g : Nat} {l : List Nat} (h : w.heap[g]? = some (.cells (u32s l).toArray 140 (0, 0))) (hb : base ≤ g) (hs : Small l) (hm : l.length ≤ maxLen) : Own w base (.slice (some ⟨g, 0, none⟩) l.length l.length) l:=
 ⟨⟨by rw [length_u32s]; omega, .inr ⟨g, l.length, _, rfl, hb, h, Nat.le_refl _, hm, by simp [length_u32s], by rw [Nat.mul_one]; exact List.take_of_length_le (by simp [length_u32s])⟩⟩, hs⟩
theorem wp_copyAll (w : World) {ops : Array Oper} {rest : List Oper} {o : Oper} {a : Act} {Q : Exit → Act → World → Prop} (hgd : o.guard = none) (d s : Operand)
  (ho : o.op = .call { callee:=.builtin .copy, args:=#[d, s], argTypes:=#[22, 22] })
  (w0 : World) (g n : Nat) (l : List Nat) (hd : a.eval d = .slice (some ⟨g, 0, none⟩) n n) (hown : Own w w0.heap.size (.slice (some ⟨g, 0, none⟩) n n) l)
  (A : Option Addr) (m c : Nat) (t : List Nat) (hs : a.eval s = .slice A m c) (ht : Sl w A m c t) (hb : Below w0.heap.size w0 w)
  (h : ∀ w', Own w' w0.heap.size (.slice (some ⟨g, 0, none⟩) n n) (over t n l m) → Below w0.heap.size w0 w' → wpList Tryz.prog ops Q rest (a.put o.dst (goInt ((min m n : Nat) : Int))) w') :
  wpList Tryz.prog ops Q (o :: rest) a w:=by
 obtain ⟨i0, hi, hz0, hz1, hz2⟩:=info_parts info_u32
 obtain ⟨hrow, hbg⟩:=hown.row
 have hl:=hown.sl.len
 have htl:=ht.len
 have hlen : (u32s (t.take n)).length = min m n:=by rw [length_u32s, List.length_take, htl, Nat.min_comm]
 refine wpList_copy_splice hgd d s 22 22 ho 140 Tryz.underlying22 (by rw [hi]; simp [hz1]) (some ⟨g, 0, none⟩) A n n m c hd hs g 0 (u32s l) 140 hrow (u32s (t.take n)) hlen ?_ (by rw [hlen, length_u32s]; omega) (u32s_oneCell _) w0.heap.size w0 hb hbg ?_
 ·intro hp
  refine ⟨rfl, ?_⟩
  obtain ⟨b, off, e, _, hc⟩:=ht.place (by rw [hlen] at hp; omega)
  refine ⟨_, e, fun j u hj => ?_⟩
  have hjt : j < (t.take n).length:=by
   rcases Nat.lt_or_ge j (t.take n).length with h1 | h1
   ·exact h1
   ·rw [List.getElem?_eq_none (by rw [length_u32s]; exact h1)] at hj; cases hj
  rw [u32s_get hjt] at hj
  rw [List.length_take] at hjt
  have hcj:=hc j (by omega)
  have e2 : nth (t.take n) j = nth t j:=by
   have : j < n:=by omega
   simp [nth_eq, this]
  rw [← hj, e2, ← hcj]
  by_cases h0 : j = 0 <;> simp [Addr.add, h0]
 ·intro w' h1 h2
  have e : splice (u32s l) 0 (u32s (t.take n)) = u32s (t.take n ++ l.drop m):=by
   unfold splice
   rw [hlen, u32s_append]
   simp only [List.take_zero, List.nil_append, Nat.zero_add]
   refine congrArg _ ?_
   simp only [u32s, List.map_drop]
   rcases Nat.lt_or_ge m n with h3 | h3
   ·rw [Nat.min_eq_left (by omega)]
   ·rw [Nat.min_eq_right h3, List.drop_eq_nil_of_le (by simp [hl]), List.drop_eq_nil_of_le (by simp [hl]; omega)]
  have h1':=h1.out
  rw [e] at h1'
  have e3 : (t.take n ++ l.drop m).length = n:=by rw [List.length_append, List.length_take, List.length_drop]; omega
  have hsm : Small (t.take n ++ l.drop m):=small_append (small_take ht.small n) (small_drop hown.small m)
  have:=own_of_row h1' hbg hsm (by rw [e3]; exact hown.sl.most)
  rw [e3] at this
  rw [hlen]
  exact h w' this h2
theorem wp_mk (w : World) {ops : Array Oper} {rest : List Oper} {o : Oper} {a : Act} {Q : Exit → Act → World → Prop}
  (hg : o.guard = none) (s c : Operand) (hop : o.op = Op.makeSlice 22 s c) (base : Nat)
  (L C : Int) (n : Nat) (hl : a.eval s = .int .i64 L) (hc : a.eval c = .int .i64 C) (hL : L = (n : Int)) (hC : C = (n : Int)) (hn : n ≤ 70368744177664) (hbase : base ≤ w.heap.size)
  (hK : ∀ w', Own w' base (.slice (some ⟨w.heap.size, 0, none⟩) n n) (List.replicate n 0) → w.grownBy w' none → wpList Tryz.prog ops Q rest (a.put o.dst (.slice (some ⟨w.heap.size, 0, none⟩) n n)) w') :
  wpList Tryz.prog ops Q (o :: rest) a w:=by
 obtain ⟨i0, hi, hz0, hz1, hz2⟩:=info_parts info_u32
 refine wpList_make_full w hg s c 22 hop base 140 i0 (.int .u32 0) 1 Tryz.underlying22 hi hz0 hz1 .i64 .i64 L C n hl hc hL hC (by rw [hz2]; omega) (by unfold maxLen; omega) hbase ?_
 intro w' h1 h2
 refine hK w' ⟨?_, small_replicate n⟩ h2
 have e : (madeCells (Value.int .u32 0).cells (n * 1)).toList = u32s (List.replicate n 0):=by
  rw [Nat.mul_one, u32s_zeros]; exact toList_madeCells_one _ n
 rw [e] at h1
 rw [List.length_replicate]
 exact h1
theorem wp_app1 (w : World) {ops : Array Oper} {rest : List Oper} {o : Oper} {a : Act} {Q : Exit → Act → World → Prop} (hgd : o.guard = none) (s x : Operand)
  (ho : o.op = .call { callee:=.builtin .append, args:=#[s, x], argTypes:=#[22, 22] })
  (base : Nat) (v : Value) (l : List Nat) (hs : a.eval s = v) (hown : Own w base v l) (g y : Nat) (hx : a.eval x = .slice (some ⟨g, 0, none⟩) 1 1) (hcell : w.cell? ⟨g, 0, none⟩ = some (.int .u32 (y : Int)))
  (hy : y < W32) (hl : l.length < 35184372088832) (hbase : base ≤ w.heap.size)
  (h : ∀ v' w', Own w' base v' (l ++ [y]) → w.grownBy w' v.ownBlock → wpList Tryz.prog ops Q rest (a.put o.dst v') w') : wpList Tryz.prog ops Q (o :: rest) a w:=by
 obtain ⟨i0, hi, hz0, hz1, hz2⟩:=info_parts info_u32
 refine wpList_append_own w hgd s x 22 ho base 140 i0 (.int .u32 0) 1 4 Tryz.underlying22 hi hz0 hz1 hz2 rfl (by decide) v l.length (u32s l) hs hown.1 ⟨g, 0, none⟩ 1 1 [.int .u32 (y : Int)] hx rfl ?_ (fun u hu => by rw [List.mem_singleton] at hu; subst hu; rfl) (by unfold maxLen; omega) (by omega) hbase ?_
 ·intro j u hj
  cases j with
  | zero => simp at hj; subst hj; simpa [Addr.add] using hcell
  | succ j => simp at hj
 ·intro v' w' h1 h2 _
  refine h v' w' ⟨?_, small_append hown.2 (small_one hy)⟩ h2
  rw [List.length_append, u32s_append, u32s_one]
  exact h1
theorem wp_appS (w : World) {ops : Array Oper} {rest : List Oper} {o : Oper} {a : Act} {Q : Exit → Act → World → Prop} (hgd : o.guard = none) (s x : Operand)
    (ho : o.op = .call { callee:=.builtin .append, args:=#[s, x], argTypes:=#[22, 22] })
    (base : Nat) (v : Value) (l : List Nat) (hs : a.eval s = v) (hown : Own w base v l) (A : Option Addr) (n c : Nat) (t : List Nat) (hx : a.eval x = .slice A n c) (ht : Sl w A n c t)
    (hl : l.length + n ≤ 35184372088832) (hbase : base ≤ w.heap.size)
    (h : ∀ v' w', Own w' base v' (l ++ t) → w.grownBy w' v.ownBlock → wpList Tryz.prog ops Q rest (a.put o.dst v') w') : wpList Tryz.prog ops Q (o :: rest) a w:=by
  obtain ⟨i0, hi, hz0, hz1, hz2⟩:=info_parts info_u32
  cases A with
  | some ad =>
    refine wpList_append_own w hgd s x 22 ho base 140 i0 (.int .u32 0) 1 4 Tryz.underlying22 hi hz0 hz1 hz2 rfl (by decide) v l.length (u32s l) hs hown.1 ad n c (u32s t) hx (by rw [length_u32s, ht.len]; omega) ?_ (u32s_oneCell t) (by unfold maxLen; omega) (by omega) hbase ?_
    · intro j u hj
      have hjt : j < t.length:=by
        rcases Nat.lt_or_ge j t.length with h1 | h1
        · exact h1
        · rw [List.getElem?_eq_none (by rw [length_u32s]; exact h1)] at hj; cases hj
      have hlen:=ht.len
      obtain ⟨b, off, e, _, hc⟩:=ht.place (by omega)
      injection e with e
      subst e
      rw [u32s_get hjt] at hj
      have hcj:=hc j (by omega)
      rw [← hj, ← hcj]
      by_cases h0 : j = 0 <;> simp [Addr.add, h0]
    · intro v' w' h1 h2 _
      refine h v' w' ⟨?_, small_append hown.2 ht.small⟩ h2
      rw [List.length_append, ht.len, u32s_append]
      exact h1
  | none =>
    have hn : n = 0:=by
      rcases Nat.eq_zero_or_pos n with h0 | h0
      · exact h0
      · obtain ⟨_, _, e, _⟩:=ht.place h0
        cases e
    subst hn
    have htn : t = []:=List.eq_nil_of_length_eq_zero ht.len
    subst htn
    refine wpList_plain hgd fun K hK => ?_
    have hrun : (Builtin.append_ #[22, 22] o.type #[v, .slice none 0 c]).run Tryz.prog w = .ok v w:=by
      rcases hown.1.2 with ⟨rfl, _⟩ | ⟨g, cap, cur, rfl, _, _, hnc, _⟩
      · simp [Builtin.append_, run_underlying Tryz.underlying22, sizeOf, typeInfo, hi, Builtin.lenOf, Builtin.firstCells]
      · simp [Builtin.append_, run_underlying Tryz.underlying22, sizeOf, typeInfo, hi, Builtin.lenOf, Builtin.firstCells, hnc, storeCells]
    unfold Oper.wp execOp
    simp only [ho, resolve, invoke, builtin, Sem.run_bind, Sem.run_pure, Result.andThen_ok, List.map_toArray, List.map_cons, List.map_nil, hs, hx, hrun]
    exact hK _ _ (h v w (by rw [List.append_nil]; exact hown) (World.grownBy.refl w _))

end Go.Proofs.YtiddbhhhmeopeaaGreatDoor


/- Walks: nat.length, Valid, Trim, Of, Uint. -/
namespace Go.Proofs.YtiddbhhhmeopeaaGreatDoor
set_option maxHeartbeats 64000000
open Go.RowKit
set_option linter.unusedVariables false
set_option linter.unusedSimpArgs false
set_option maxRecDepth 100000

theorem lengthTrim {l : List Nat} {k n : Nat} (hn : l.length = n) (hk : k ≤ n) (hz : ∀ j, k ≤ j → j < n → nth l j = 0) (hp : 0 < k → nth l (k - 1) ≠ 0) : (trim l).length = k:=by
 rw [trim_of (by omega) (fun j h1 h2 => hz j h1 (by omega)) hp, List.length_take]
 omega

theorem length_any (l : List Nat) (A : Option Addr) (n c : Nat) (w : World) (h : Sl w A n c l) :
  Calls Tryz.prog 234 #[.slice A n c] w fun e w' => e = .returned (.int .i64 ((trim l).length : Nat)) ∧ w = w':=by
 have hn:=h.le63
 refine Calls.mono (R:=fun e w' => ∃ k : Nat, e = .returned (.int .i64 k) ∧ Hid (k ≤ n ∧ (∀ j, k ≤ j → j < n → nth l j = 0) ∧ (0 < k → nth l (k - 1) ≠ 0)) ∧ w = w') ?_ ?_
 ·go_enter Tryz.func234, Tryz.ntmps234
  go_wp2
  go_loop [3] (fun t => ∃ k : Nat, t = .int .i64 k ∧ k ≤ n ∧ Hid (∀ j, k ≤ j → j < n → nth l j = 0)) (fun t => (intOf t).toNat)
  case atStart => exact ⟨n, rfl, Nat.le_refl _, fun j h1 h2 => by omega⟩
  case round =>
   obtain ⟨k, rfl, hk, Hz⟩:=hrel
   rcases Nat.eq_zero_or_pos k with h0 | h0
   ·subst h0
    go_wp2
    go_ret
    exact ⟨0, rfl, ⟨hk, Hz.out, by omega⟩, rfl⟩
   ·obtain ⟨m, rfl⟩ : ∃ m, k = m + 1:=⟨k - 1, by omega⟩
    obtain ⟨b, off, x, rfl, hb, hc, HX, _⟩:=h.get (Below.refl _ _) (k:=m) (by omega)
    by_cases hx : x = 0
    ·subst hx
     go_wp2
     go_round
     case rel =>
      refine ⟨m, by go_num, by omega, fun j h1 h2 => ?_⟩
      rcases Nat.eq_or_lt_of_le h1 with rfl | h1
      ·exact HX.out
      ·exact Hz.out j h1 h2
     case measure => simp [intOf]
    ·have hxb : ((x : Int) == 0) = false:=by simp; omega
     have HN:=Hd9 hx; clear hx
     go_wp2
     go_ret
     exact ⟨m + 1, rfl, ⟨hk, Hz.out, fun _ => by rw [Nat.add_sub_cancel, HX.out]; exact HN.out⟩, rfl⟩
 ·rintro e w' ⟨k, rfl, ⟨h1, h2, h3⟩, rfl⟩
  rw [lengthTrim h.len h1 h2 h3]
  exact ⟨rfl, rfl⟩

def isTrim (l : List Nat) : Bool:=decide ((trim l).length = l.length)

theorem valid_any (l : List Nat) (A : Option Addr) (n c : Nat) (w : World) (h : Sl w A n c l) :
  Calls Tryz.prog 253 #[.slice A n c] w fun e w' => e = .returned (.bool (isTrim l)) ∧ w = w':=by
 have hl:=h.len
 have hn:=h.le63
 refine Calls.mono (R:=fun e w' => e = .returned (.bool ((((trim l).length : Nat) : Int) == (n : Int))) ∧ w = w') ?_ ?_
 ·clear hl
  go_enter Tryz.func253, Tryz.ntmps253
  go_wp2_with (go_at_call 234; refine (length_any _ _ _ _ _ h).mono ?_; rintro e w' ⟨rfl, rfl⟩)
  go_ret
  exact ⟨rfl, rfl⟩
 ·rintro e w' ⟨rfl, rfl⟩
  refine ⟨?_, rfl⟩
  have e1 : ((((trim l).length : Nat) : Int) == (n : Int)) = isTrim l:=by
   unfold isTrim
   rw [Bool.eq_iff_iff, beq_iff_eq, decide_eq_true_iff]
   omega
  rw [e1]

theorem trim_any (l : List Nat) (A : Option Addr) (n c : Nat) (w : World) (h : Sl w A n c l) (hn : n ≤ 70368744177664) :
  Calls Tryz.prog 222 #[.slice A n c] w (RetL w (trim l)):=by
 have hk : (trim l).length ≤ n:=by rw [← h.len]; exact length_trim_le l
 have H:=length_any l A n c w h
 obtain ⟨k, hk'⟩ : ∃ k, k = (trim l).length:=⟨_, rfl⟩
 rw [← hk'] at hk H
 have HK:=Hd9 hk'; clear hk'
 have HL:=Hd9 H; clear H
 go_enter Tryz.func222, Tryz.ntmps222
 go_wp2_with (first
  | (go_at_call 234; refine HL.out.mono ?_; rintro e w' ⟨rfl, rfl⟩)
  | (at_make; refine wp_mk _ rfl _ _ rfl w.heap.size _ _ k rfl rfl rfl rfl (by omega) (Nat.le_refl _) ?_))
 intro w1 h1 g1
 have b1 : Below w.heap.size w w1:=(Below.refl _ _).grown g1 (Nat.le_refl _) (fun k h => by cases h)
 go_wp2_with (with_reducible refine wp_copyAll _ rfl _ _ rfl w _ k _ rfl h1 _ n c l rfl (h.mono b1) b1 ?_)
 intro w2 h2 b2
 go_wp2
 go_ret
 refine ⟨_, rfl, ?_, b2⟩
 have e : over l k (List.replicate k 0) n = trim l:=by rw [over_full (by rw [List.length_replicate]; exact hk), HK.out, trim_take]
 rw [e] at h2
 exact h2

theorem own_two (w : World) (x y : Nat) (hx : x < W32) (hy : y < W32) : Own (w.alloc (.cells #[.int .u32 (x : Int), .int .u32 (y : Int)] 140)) w.heap.size (.slice (some ⟨w.heap.size, 0, none⟩) 2 2) [x, y]:=
 ⟨World.ownsRow_lit w #[.int .u32 (x : Int), .int .u32 (y : Int)] 2 (Nat.le_refl _) (by unfold maxLen; omega) rfl, small_cons hx (small_one hy)⟩

theorem of_any (n : Nat) (w : World) (hn : n < 18446744073709551616) :
  Calls Tryz.prog 216 #[.int .u64 (n : Int)] w (RetN w n):=by
 obtain ⟨x, hx⟩ : ∃ x, x = n % 4294967296:=⟨_, rfl⟩
 obtain ⟨y, hy⟩ : ∃ y, y = n / 4294967296:=⟨_, rfl⟩
 have ho:=own_two w x y (by unfold W32; omega) (by unfold W32; omega)
 have e1 : (n : Int) % 4294967296 = (x : Int):=by omega
 have e2 : (n : Int) / 4294967296 = (y : Int):=by omega
 have hv : val [x, y] = n:=by simp only [val, W32]; omega
 have hd : dig n = trim [x, y]:=by rw [← hv, dig_val ho.small]
 have hk : (trim [x, y]).length ≤ 2:=length_trim_le [x, y]
 have H:=length_any [x, y] _ _ _ _ ho.sl
 obtain ⟨k, hk'⟩ : ∃ k, k = (trim [x, y]).length:=⟨_, rfl⟩
 rw [← hk'] at hk H
 have hcut:=ho.cut hk
 rw [hk', trim_take, ← hk', ← hd, ← e1, ← e2] at hcut
 rw [← e1, ← e2] at H
 have HL:=Hd9 H
 clear H ho e1 e2 hv hd hk' hx hy
 go_enter Tryz.func216, Tryz.ntmps216
 go_wp2_with (go_at_call 234; refine HL.out.mono ?_; rintro e w' ⟨rfl, rfl⟩)
 go_ret
 exact ⟨_, rfl, hcut, (Below.refl _ _).alloc (Nat.le_refl _) _⟩

end Go.Proofs.YtiddbhhhmeopeaaGreatDoor


/- Walks: cmp.Compare at two types, nat.Cmp. -/
namespace Go.Proofs.YtiddbhhhmeopeaaGreatDoor
set_option maxHeartbeats 64000000
open Go.RowKit
set_option linter.unusedVariables false
set_option linter.unusedSimpArgs false
set_option maxRecDepth 100000

theorem isNaNI_any (x : Int) (w : World) : Calls Tryz.prog 233 #[.int .i64 x] w fun e w' => e = .returned (.bool false) ∧ w = w':=by
 go_enter Tryz.func233, Tryz.ntmps233
 go_wp2
 go_ret
 exact ⟨rfl, rfl⟩
theorem isNaNU_any (x : Int) (w : World) : Calls Tryz.prog 255 #[.int .u32 x] w fun e w' => e = .returned (.bool false) ∧ w = w':=by
 go_enter Tryz.func255, Tryz.ntmps255
 go_wp2
 go_ret
 exact ⟨rfl, rfl⟩

theorem compareI_any (x y : Int) (w : World) : Calls Tryz.prog 193 #[.int .i64 x, .int .i64 y] w fun e w' => e = .returned (.int .i64 (cmpI x y)) ∧ w = w':=by
 rcases Int.lt_trichotomy x y with h | rfl | h
 ·rw [cmpI_lt h]
  go_enter Tryz.func193, Tryz.ntmps193
  go_wp2_with (go_at_call 233; refine (isNaNI_any _ _).mono ?_; rintro e w' ⟨rfl, rfl⟩)
  go_ret
  exact ⟨rfl, rfl⟩
 ·rw [cmpI_eq x]
  go_enter Tryz.func193, Tryz.ntmps193
  go_wp2_with (go_at_call 233; refine (isNaNI_any _ _).mono ?_; rintro e w' ⟨rfl, rfl⟩)
  go_ret
  exact ⟨rfl, rfl⟩
 ·rw [cmpI_gt h]
  have h' : ¬ x < y:=by omega
  go_enter Tryz.func193, Tryz.ntmps193
  go_wp2_with (go_at_call 233; refine (isNaNI_any _ _).mono ?_; rintro e w' ⟨rfl, rfl⟩)
  go_ret
  exact ⟨rfl, rfl⟩

theorem compareU_any (x y : Int) (w : World) : Calls Tryz.prog 235 #[.int .u32 x, .int .u32 y] w fun e w' => e = .returned (.int .i64 (cmpI x y)) ∧ w = w':=by
 rcases Int.lt_trichotomy x y with h | rfl | h
 ·rw [cmpI_lt h]
  go_enter Tryz.func235, Tryz.ntmps235
  go_wp2_with (go_at_call 255; refine (isNaNU_any _ _).mono ?_; rintro e w' ⟨rfl, rfl⟩)
  go_ret
  exact ⟨rfl, rfl⟩
 ·rw [cmpI_eq x]
  go_enter Tryz.func235, Tryz.ntmps235
  go_wp2_with (go_at_call 255; refine (isNaNU_any _ _).mono ?_; rintro e w' ⟨rfl, rfl⟩)
  go_ret
  exact ⟨rfl, rfl⟩
 ·rw [cmpI_gt h]
  have h' : ¬ x < y:=by omega
  go_enter Tryz.func235, Tryz.ntmps235
  go_wp2_with (go_at_call 255; refine (isNaNU_any _ _).mono ?_; rintro e w' ⟨rfl, rfl⟩)
  go_ret
  exact ⟨rfl, rfl⟩
def RetIQ (w : World) (x : Int) (e : Ending) (w' : World) : Prop:=e = .returned (.int .i64 x) ∧ ∃ n, w' = w.drewN n

def SameAbove (x y : Nat) (t : Int) : Prop:=∀ j : Nat, t < j → nth (dig x) j = nth (dig y) j

theorem cmp_any (x y : Nat) (va vb : Value) (w : World) (ha : IsN w va x) (hb : IsN w vb y) :
  Calls Tryz.prog 194 #[va, vb] w (RetIQ w (cmpI x y)):=by
 obtain ⟨A, n, c, rfl, ha⟩:=ha
 obtain ⟨B, m, d, rfl, hb⟩:=hb
 have HA:=length_any _ A n c w ha
 have HB:=length_any _ B m d w hb
 have la:=ha.len
 have lb:=hb.len
 rw [trim_dig, la] at HA
 rw [trim_dig, lb] at HB
 have HLA:=Hd9 HA; clear HA
 have HLB:=Hd9 HB; clear HB
 have ha63:=ha.le63
 rcases Nat.lt_trichotomy n m with hlt | heq | hgt
 ·have hxy : x < y:=by
   rcases Nat.lt_or_ge x y with h | h
   ·exact h
   ·have:=len_mono h; unfold len at this; omega
  have hc : cmpI (n : Int) (m : Int) = -1:=cmpI_lt (by omega)
  have hc2 : cmpI (x : Int) (y : Int) = -1:=cmpI_lt (by omega)
  rw [hc2]
  have HC:=compareI_any n m w
  rw [hc] at HC
  have HCH:=Hd9 HC
  clear HC hc hc2 la lb
  go_enter Tryz.func194, Tryz.ntmps194
  go_wp2_with fail
  refine HLA.out.mono ?_; rintro e w' ⟨rfl, rfl⟩
  go_wp2_with fail
  refine HLB.out.mono ?_; rintro e w' ⟨rfl, rfl⟩
  go_wp2_with fail
  refine HCH.out.mono ?_; rintro e w' ⟨rfl, rfl⟩
  go_wp2_with fail
  go_ret
  exact ⟨rfl, 0, rfl⟩
 ·subst heq
  have HC:=compareI_any n n w
  rw [cmpI_eq] at HC
  have HCH:=Hd9 HC
  clear HC
  have HLa:=Hd9 la; clear la
  have HLb:=Hd9 lb; clear lb
  refine Calls.mono (R:=fun e w' => ∃ i : Int, e = .returned (.int .i64 i) ∧ Hid (i = cmpI x y) ∧ ∃ n, w' = w.drewN n) ?_ (by rintro e w' ⟨i, rfl, h1, h2⟩; exact ⟨by rw [h1.out], h2⟩)
  go_enter Tryz.func194, Tryz.ntmps194
  go_wp2_with fail
  refine HLA.out.mono ?_; rintro e w' ⟨rfl, rfl⟩
  go_wp2_with fail
  refine HLB.out.mono ?_; rintro e w' ⟨rfl, rfl⟩
  go_wp2_with fail
  refine HCH.out.mono ?_; rintro e w' ⟨rfl, rfl⟩
  go_wp2_with fail
  go_loopw [7] (fun i wr => ∃ t : Int, i = .int .i64 t ∧ -1 ≤ t ∧ t < n ∧ SameAbove x y t ∧ ∃ q, wr = w.drewN q) (fun i _ => (intOf i + 1).toNat)
  case atStart => exact ⟨_, rfl, by omega, by omega, fun j hj => by rw [nth_of_ge (by rw [HLa.out]; omega), nth_of_ge (by rw [HLb.out]; omega)], 0, rfl⟩
  case round =>
   obtain ⟨t, rfl, h1, h2, HS, q, rfl⟩:=hrel
   by_cases ht : t = -1
   ·subst ht
    go_wp2_with fail
    go_ret
    refine ⟨_, rfl, ?_, q, rfl⟩
    have e : dig x = dig y:=eq_of_nth (by rw [HLa.out, HLb.out]) (fun j => HS j (by omega))
    rw [dig_inj e]
    exact (cmpI_eq _).symm
   ·obtain ⟨k, rfl⟩ : ∃ k : Nat, t = (k : Int):=⟨t.toNat, by omega⟩
    obtain ⟨b, off, xi, rfl, _, hxc, HX, hx⟩:=ha.get (Below.refl _ w) (k:=k) (by omega)
    obtain ⟨b', off', yi, rfl, _, hyc, HY, hy⟩:=hb.get (Below.refl _ w) (k:=k) (by omega)
    clear ht
    rcases Nat.lt_trichotomy xi yi with h | h | h
    ·have HC:=fun W => compareU_any xi yi W
     rw [cmpI_lt (by omega)] at HC
     have HCC:=Hd9 HC; clear HC
     have hlt : x < y:=by
      have:=val_lt_of_top (i:=k) (small_dig x) (b:=dig y) (by rw [HLa.out, HLb.out]) (fun j hj => HS j (by omega)) (by rw [HX.out, HY.out]; exact h)
      rwa [val_dig, val_dig] at this
     have HLT:=Hd9 (cmpI_lt (show (x : Int) < y by omega)); clear hlt h
     go_wp2_with fail
     go_quiet ((go_at_call 235; first | exact quietA (HCC.out _) | exact quietB (HCC.out _)))
     go_wp2
     go_ret
     exact ⟨_, rfl, HLT.out.symm, _, rfl⟩
    ·subst h
     have HC:=fun W => compareU_any xi xi W
     rw [cmpI_eq] at HC
     have HCC:=Hd9 HC; clear HC
     go_wp2_with fail
     go_quiet ((go_at_call 235; first | exact quietA (HCC.out _) | exact quietB (HCC.out _)))
     go_wp2
     go_roundw
     case rel =>
      refine ⟨_, rfl, by omega, by omega, fun j hj => ?_, _, rfl⟩
      by_cases hjk : j = k
      ·subst hjk; rw [HX.out, HY.out]
      ·exact HS j (by omega)
     case measure => simp [intOf] <;> omega
    ·have HC:=fun W => compareU_any xi yi W
     rw [cmpI_gt (by omega)] at HC
     have HCC:=Hd9 HC; clear HC
     have hlt : y < x:=by
      have:=val_lt_of_top (i:=k) (small_dig y) (b:=dig x) (by rw [HLa.out, HLb.out]) (fun j hj => (HS j (by omega)).symm) (by rw [HX.out, HY.out]; exact h)
      rwa [val_dig, val_dig] at this
     have HLT:=Hd9 (cmpI_gt (show (y : Int) < x by omega)); clear hlt h
     go_wp2_with fail
     go_quiet ((go_at_call 235; first | exact quietA (HCC.out _) | exact quietB (HCC.out _)))
     go_wp2
     go_ret
     exact ⟨_, rfl, HLT.out.symm, _, rfl⟩
 ·have hxy : y < x:=by
   rcases Nat.lt_or_ge y x with h | h
   ·exact h
   ·have:=len_mono h; unfold len at this; omega
  have hc : cmpI (n : Int) (m : Int) = 1:=cmpI_gt (by omega)
  have hc2 : cmpI (x : Int) (y : Int) = 1:=cmpI_gt (by omega)
  rw [hc2]
  have HC:=compareI_any n m w
  rw [hc] at HC
  have HCH:=Hd9 HC
  clear HC hc hc2 la lb
  go_enter Tryz.func194, Tryz.ntmps194
  go_wp2_with fail
  refine HLA.out.mono ?_; rintro e w' ⟨rfl, rfl⟩
  go_wp2_with fail
  refine HLB.out.mono ?_; rintro e w' ⟨rfl, rfl⟩
  go_wp2_with fail
  refine HCH.out.mono ?_; rintro e w' ⟨rfl, rfl⟩
  go_wp2_with fail
  go_ret
  exact ⟨rfl, 0, rfl⟩

end Go.Proofs.YtiddbhhhmeopeaaGreatDoor


/- Walks: nat.Add, nat.Sub. -/
namespace Go.Proofs.YtiddbhhhmeopeaaGreatDoor
set_option maxHeartbeats 64000000
open Go.RowKit
set_option linter.unusedVariables false
set_option linter.unusedSimpArgs false
set_option maxRecDepth 100000

theorem add_core (sw : Bool) (x y n c m d : Nat) (A B : Option Addr) (w : World) (hsw : sw = true → m < n) (hmn : m ≤ n) (hn : n ≤ 1099511627776) (ha : Sl w A n c (dig x)) (hb : Sl w B m d (dig y)) :
  Calls Tryz.prog 210 (if sw then #[.slice B m d, .slice A n c] else #[.slice A n c, .slice B m d]) w (RetN w (x + y)):=by
 have hlx : len x = n:=ha.len
 have hly : len y = m:=hb.len
 have HLX:=Hd9 hlx; clear hlx
 have HLY:=Hd9 hly; clear hly
 have hlt : sw = true ∧ m < n ∨ sw = false ∧ ¬ n < m:=by cases sw <;> simp_all
 clear hsw
 rcases hlt with ⟨rfl, hlt⟩ | ⟨rfl, hlt⟩
 all_goals
  simp only [if_true, if_false, Bool.false_eq_true]
  go_enter Tryz.func210, Tryz.ntmps210
  go_wp2_with (at_make; refine wp_mk _ rfl _ _ rfl w.heap.size _ _ (n + 1) rfl rfl (by omega) (by omega) (by omega) (Nat.le_refl _) ?_)
  intro w1 h1 g1
  have b1 : Below w.heap.size w w1:=(Below.refl _ _).grown g1 (Nat.le_refl _) (fun k h => by cases h)
  obtain ⟨g, hg⟩ : ∃ g, g = w.heap.size:=⟨_, rfl⟩
  rw [← hg] at h1 ⊢
  have HG:=Hd9 hg; clear hg
  clear g1
  go_wp2_with fail
  go_loopw [6, 22] (fun t i wr => ∃ (k cy : Nat) (s : List Nat), i = .int .i64 k ∧ t = .int .u64 cy ∧ k ≤ n ∧ cy ≤ 1 ∧ AddIs x y s k cy ∧ Own wr g (.slice (some ⟨g, 0, none⟩) (n + 1) (n + 1)) (s ++ List.replicate (n + 1 - k) 0) ∧ Below w.heap.size w wr) (fun _ i _ => n - (intOf i).toNat)
  case atStart => exact ⟨0, 0, [], rfl, rfl, by omega, by omega, addIs_zero x y, h1, b1⟩
  case round =>
   obtain ⟨k, cy, s, rfl, rfl, hk, hcy, HS, hown, hbel⟩:=hrel
   clear h1 b1
   rcases Nat.eq_or_lt_of_le hk with rfl | hkn
   ·have hfree:=hown.free k
    obtain ⟨z, hz, _, _⟩:=hown.cell (j:=k) (by omega)
    rw [show k + 1 - k = 0 + 1 from by omega] at hown
    have hst:=hown.store (j:=k) (x:=cy) (by unfold W32; omega)
    rw [set_end s 0 cy HS.1, List.replicate_zero, List.append_nil] at hst
    have H:=length_any _ _ _ _ _ hst.sl
    have HT:=Hd9 (addIs_end HS (Nat.le_of_eq HLX.out) (by rw [HLY.out]; exact hmn) (show cy < W32 by unfold W32; omega))
    rw [HT.out] at H
    have hdl : (dig (x + y)).length ≤ k + 1:=by
     rw [← HT.out]
     have:=length_trim_le (s ++ [cy])
     rw [List.length_append, HS.1] at this
     exact this
    have hcut:=hst.cut hdl
    have HD:=Hd9 (show (s ++ [cy]).take (dig (x + y)).length = dig (x + y) by rw [← HT.out, trim_take])
    rw [HD.out] at hcut
    have hb2:=hbel.setCell (p:=⟨g, k, none⟩) (by rw [HG.out]; exact Nat.le_refl _) (.int .u32 (cy : Int))
    obtain ⟨kk, hkk⟩ : ∃ kk, kk = (dig (x + y)).length:=⟨_, rfl⟩
    rw [← hkk] at hdl H
    have HKK:=Hd9 hkk; clear hkk
    have HL:=Hd9 H; clear H
    have HHcut:=Hd9 hcut; clear hcut
    clear hst hown
    go_wp2_with (go_at_call 234; refine HL.out.mono ?_; rintro e w' ⟨rfl, rfl⟩)
    go_ret
    refine ⟨_, rfl, ?_, hb2⟩
    have:=HHcut.out
    rw [← HKK.out] at this
    exact this.base_le (Nat.le_of_eq HG.out.symm)
   ·have hfree:=hown.free k
    obtain ⟨z, hz, _, _⟩:=hown.cell (j:=k) (by omega)
    obtain ⟨b, off, u, rfl, _, hxc, HU, hu⟩:=ha.get hbel (k:=k) hkn
    rw [show n + 1 - k = (n - k) + 1 from by omega] at hown
    have hlg:=hbel.size
    rcases Nat.lt_or_ge k m with hkm | hkm
    ·obtain ⟨b', off', v, rfl, _, hyc, HV, hv⟩:=hb.get hbel (k:=k) hkm
     have hst:=hown.store (j:=k) (x:=(cy + u + v) % W32) (Nat.mod_lt _ W32_pos)
     rw [set_end s (n - k) _ HS.1, show (((cy + u + v) % W32 : Nat) : Int) = ((cy : Int) + u + v) % 4294967296 from by unfold W32; omega] at hst
     have hb2:=hbel.setCell (p:=⟨g, k, none⟩) (by rw [HG.out]; exact Nat.le_refl _) (.int .u32 (((cy : Int) + u + v) % 4294967296))
     have HST:=Hd9 hst
     clear hown hst
     go_wp2_with fail
     go_roundw
     case rel => exact ⟨k + 1, (cy + u + v) / W32, _, by go_num, congrArg (Value.int .u64) (by unfold W32; omega), by omega, by unfold W32; omega, addIs_step HS HU.out HV.out, by rw [show n + 1 - (k + 1) = n - k from by omega]; exact HST.out, hb2⟩
     case measure => simp [intOf]; omega
    ·have hV : nth (dig y) k = 0:=nth_of_ge (by rw [length_dig, HLY.out]; exact hkm)
     have HV:=Hd9 hV; clear hV
     have hst:=hown.store (j:=k) (x:=(cy + u + 0) % W32) (Nat.mod_lt _ W32_pos)
     rw [set_end s (n - k) _ HS.1, show (((cy + u + 0) % W32 : Nat) : Int) = ((cy : Int) + u) % 4294967296 from by unfold W32; omega] at hst
     have hb2:=hbel.setCell (p:=⟨g, k, none⟩) (by rw [HG.out]; exact Nat.le_refl _) (.int .u32 (((cy : Int) + u) % 4294967296))
     have HST:=Hd9 hst
     clear hown hst
     go_wp2_with fail
     go_roundw
     case rel => exact ⟨k + 1, (cy + u + 0) / W32, _, by go_num, congrArg (Value.int .u64) (by unfold W32; omega), by omega, by unfold W32; omega, addIs_step HS HU.out HV.out, by rw [show n + 1 - (k + 1) = n - k from by omega]; exact HST.out, hb2⟩
     case measure => simp [intOf]; omega

theorem add_any (x y : Nat) (va vb : Value) (w : World) (ha : IsN w va x) (hb : IsN w vb y) (hx : len x ≤ 1099511627776) (hy : len y ≤ 1099511627776) :
  Calls Tryz.prog 210 #[va, vb] w (RetN w (x + y)):=by
 obtain ⟨A, n, c, rfl, ha⟩:=ha
 obtain ⟨B, m, d, rfl, hb⟩:=hb
 have h1 : len x = n:=ha.len
 have h2 : len y = m:=hb.len
 rcases Nat.lt_or_ge n m with h | h
 ·have:=add_core true y x m d n c B A w (fun _ => h) (by omega) (by omega) hb ha
  rw [Nat.add_comm x y]
  exact this
 ·exact add_core false x y n c m d A B w (fun h => by cases h) h (by omega) ha hb

end Go.Proofs.YtiddbhhhmeopeaaGreatDoor


/- Walks: nat.Sub. -/
namespace Go.Proofs.YtiddbhhhmeopeaaGreatDoor
set_option maxHeartbeats 64000000
open Go.RowKit
set_option linter.unusedVariables false
set_option linter.unusedSimpArgs false
set_option maxRecDepth 100000
def RetSub (w : World) (x y : Nat) (e : Ending) (w' : World) : Prop:=RetNB w (if y ≤ x then x - y else 0) (decide (y ≤ x)) e w'
theorem retSub_no {w w' : World} {x y : Nat} (h : x < y) (hb : Below w.heap.size w w') : RetSub w x y (.returned (.tuple #[.slice none 0 0, .bool false])) w':=by
 unfold RetSub
 rw [if_neg (by omega), decide_eq_false (by omega)]
 exact ⟨_, rfl, by rw [dig_zero]; exact Own.nil _ _, hb⟩
theorem retSub_yes {w w' : World} {x y : Nat} {v : Value} (h : y ≤ x) (ho : Own w' w.heap.size v (dig (x - y))) (hb : Below w.heap.size w w') : RetSub w x y (.returned (.tuple #[v, .bool true])) w':=by
 unfold RetSub
 rw [if_pos h, decide_eq_true h]
 exact ⟨_, rfl, ho, hb⟩

theorem sub_any (x y : Nat) (va vb : Value) (w : World) (ha : IsN w va x) (hb : IsN w vb y) (hx : len x ≤ 1099511627776) :
  Calls Tryz.prog 211 #[va, vb] w (RetSub w x y):=by
 have HC:=cmp_any x y va vb w ha hb
 have HCMP:=Hd9 HC; clear HC
 obtain ⟨A, n, c, rfl, ha⟩:=ha
 obtain ⟨B, m, d, rfl, hb⟩:=hb
 have hlx : len x = n:=ha.len
 have hly : len y = m:=hb.len
 have HLX:=Hd9 hlx; clear hlx
 have HLY:=Hd9 hly; clear hly
 rcases Nat.lt_or_ge x y with hlt | hge
 ·have HLT:=Hd9 hlt
  have HE:=Hd9 (cmpI_lt (a:=(x : Int)) (b:=y) (by omega))
  clear hlt
  go_enter Tryz.func211, Tryz.ntmps211
  go_wp2_with fail
  refine HCMP.out.mono ?_
  rintro e w' ⟨rfl, q, rfl⟩
  rw [HE.out]
  go_wp2_with fail
  go_ret2
  exact retSub_no HLT.out (belowN (Below.refl _ w) q)
 ·have HGE:=Hd9 hge
  have HR:=Hd9 (cmpI_range (x : Int) y)
  have hcm : 0 ≤ cmpI (x : Int) (y : Int):=by
   unfold cmpI; rw [if_neg (by omega)]; split <;> omega
  have hq:=fun q => length_any _ A n c _ (ha.mono (belowN (Below.refl _ w) q))
  rw [trim_dig, ha.len] at hq
  have HLA:=Hd9 hq; clear hq hge
  generalize cmpI (x : Int) (y : Int) = cc at *
  have hcd : decide (cc < 0) = false:=by simp; omega
  have hN : n ≤ 1099511627776:=by rw [← HLX.out]; exact hx
  go_enter Tryz.func211, Tryz.ntmps211
  go_wp2_with fail
  refine HCMP.out.mono ?_
  rintro e w' ⟨rfl, q, rfl⟩
  go_wp2_with (first
   | (go_at_call 234; refine (HLA.out _).mono ?_; rintro e w' ⟨rfl, rfl⟩)
   | (at_make; refine wp_mk _ rfl _ _ rfl w.heap.size _ _ n rfl rfl rfl rfl (by omega) (Nat.le_refl _) ?_))
  intro w1 h1 g1
  have b1 : Below w.heap.size w w1:=(belowN (Below.refl _ _) q).grown g1 (Nat.le_refl _) (fun k h => by cases h)
  clear g1
  obtain ⟨g, hg⟩ : ∃ g, g = w.heap.size:=⟨_, rfl⟩
  rw [← hg] at h1 ⊢
  have HG:=Hd9 hg; clear hg
  go_wp2_with fail
  go_loopw [7, 19] (fun t i wr => ∃ (k bw : Nat) (s : List Nat), i = .int .i64 k ∧ t = .int .u64 bw ∧ k ≤ n ∧ bw ≤ 1 ∧ SubIs x y s k bw ∧ Own wr g (.slice (some ⟨g, 0, none⟩) n n) (s ++ List.replicate (n - k) 0) ∧ Below w.heap.size w wr) (fun _ i _ => n - (intOf i).toNat)
  case atStart => exact ⟨0, 0, [], rfl, rfl, by omega, by omega, subIs_zero x y, h1, b1⟩
  case round =>
   obtain ⟨k, bw, s, rfl, rfl, hk, hbw, HS, hown, hbel⟩:=hrel
   clear h1 b1
   rcases Nat.eq_or_lt_of_le hk with rfl | hkn
   ·rw [Nat.sub_self, List.replicate_zero, List.append_nil] at hown
    have H:=length_any _ _ _ _ _ hown.sl
    have HT:=Hd9 (subIs_end HS (Nat.le_of_eq HLX.out) HGE.out)
    rw [HT.out] at H
    have hdl : (dig (x - y)).length ≤ k:=by
     rw [← HT.out]
     have:=length_trim_le s
     rw [HS.1] at this
     exact this
    have hcut:=hown.cut hdl
    have HD:=Hd9 (show s.take (dig (x - y)).length = dig (x - y) by rw [← HT.out, trim_take])
    rw [HD.out] at hcut
    obtain ⟨kk, hkk⟩ : ∃ kk, kk = (dig (x - y)).length:=⟨_, rfl⟩
    rw [← hkk] at hdl H
    have HKK:=Hd9 hkk; clear hkk
    have HL:=Hd9 H; clear H
    have HHcut:=Hd9 hcut; clear hcut
    clear hown
    go_wp2_with (go_at_call 234; refine HL.out.mono ?_; rintro e w' ⟨rfl, rfl⟩)
    go_ret2
    have:=HHcut.out
    rw [← HKK.out] at this
    exact retSub_yes HGE.out (this.base_le (Nat.le_of_eq HG.out.symm)) hbel
   ·have hfree:=hown.free k
    obtain ⟨z, hz, _, _⟩:=hown.cell (j:=k) (by omega)
    obtain ⟨b, off, u, rfl, _, hxc, HU, hu⟩:=ha.get hbel (k:=k) hkn
    rw [show n - k = (n - (k + 1)) + 1 from by omega] at hown
    have hlg:=hbel.size
    rcases Nat.lt_or_ge k m with hkm | hkm
    ·obtain ⟨b', off', v, rfl, _, hyc, HV, hv⟩:=hb.get hbel (k:=k) hkm
     rcases Nat.lt_or_ge u (bw + v) with h | h
     ·rcases Nat.lt_or_ge u bw with h' | h'
      ·obtain rfl : u = 0:=by omega
       obtain rfl : bw = 1:=by omega
       have hst:=hown.store (j:=k) (x:=4294967295 - v) (by unfold W32; omega)
       rw [set_end s (n - (k + 1)) _ HS.1, show ((4294967295 - v : Nat) : Int) = IntKind.u64.wrap (IntKind.u64.wrap (-1) - (v : Int)) % 4294967296 from by rw [sub_two, sub_low (by omega) (by omega)]; omega] at hst
       have hb2:=hbel.setCell (p:=⟨g, k, none⟩) (by rw [HG.out]; exact Nat.le_refl _) (.int .u32 (IntKind.u64.wrap (IntKind.u64.wrap (-1) - (v : Int)) % 4294967296))
       have HST:=Hd9 hst
       clear hown hst
       go_wp2_with fail
       go_roundw
       case rel => exact ⟨k + 1, 1, _, by go_num, congrArg (Value.int .u64) (by rw [sub_two, sub_top (by omega) (by omega)]; rfl), by omega, by omega, subIs_step HS HU.out HV.out (by unfold W32; omega) (by unfold W32; omega), HST.out, hb2⟩
       case measure => simp [intOf]; omega
      ·have _t:=trivial
       have hst:=hown.store (j:=k) (x:=u + 4294967296 - bw - v) (by unfold W32; omega)
       rw [set_end s (n - (k + 1)) _ HS.1, show ((u + 4294967296 - bw - v : Nat) : Int) = IntKind.u64.wrap ((u : Int) - bw - v) % 4294967296 from by rw [sub_low (by omega) (by omega)]; omega] at hst
       have hb2:=hbel.setCell (p:=⟨g, k, none⟩) (by rw [HG.out]; exact Nat.le_refl _) (.int .u32 (IntKind.u64.wrap ((u : Int) - bw - v) % 4294967296))
       have HST:=Hd9 hst
       clear hown hst
       go_wp2_with fail
       go_roundw
       case rel => exact ⟨k + 1, 1, _, by go_num, congrArg (Value.int .u64) (by rw [sub_top (by omega) (by omega)]; rfl), by omega, by omega, subIs_step HS HU.out HV.out (by unfold W32; omega) (by unfold W32; omega), HST.out, hb2⟩
       case measure => simp [intOf]; omega
     ·have hst:=hown.store (j:=k) (x:=u - bw - v) (by unfold W32; omega)
      rw [set_end s (n - (k + 1)) _ HS.1, show (((u - bw - v) : Nat) : Int) = (u : Int) - bw - v from by omega] at hst
      have hb2:=hbel.setCell (p:=⟨g, k, none⟩) (by rw [HG.out]; exact Nat.le_refl _) (.int .u32 ((u : Int) - bw - v))
      have HST:=Hd9 hst
      clear hown hst
      go_wp2_with fail
      go_roundw
      case rel => exact ⟨k + 1, 0, _, by go_num, congrArg (Value.int .u64) (by omega), by omega, by omega, subIs_step HS HU.out HV.out (by unfold W32; omega) (by omega), HST.out, hb2⟩
      case measure => simp [intOf]; omega
    ·have hV : nth (dig y) k = 0:=nth_of_ge (by rw [length_dig, HLY.out]; exact hkm)
     have HV:=Hd9 hV; clear hV
     rcases Nat.lt_or_ge u bw with h | h
     ·obtain rfl : u = 0:=by omega
      obtain rfl : bw = 1:=by omega
      have hst:=hown.store (j:=k) (x:=4294967295) (by unfold W32; omega)
      rw [set_end s (n - (k + 1)) _ HS.1, show ((4294967295 : Nat) : Int) = IntKind.u64.wrap (-1) % 4294967296 from by rw [sub_low (by omega) (by omega)]; rfl] at hst
      have hb2:=hbel.setCell (p:=⟨g, k, none⟩) (by rw [HG.out]; exact Nat.le_refl _) (.int .u32 (IntKind.u64.wrap (-1) % 4294967296))
      have HST:=Hd9 hst
      clear hown hst
      go_wp2_with fail
      go_roundw
      case rel => exact ⟨k + 1, 1, _, by go_num, congrArg (Value.int .u64) (by rw [sub_top (by omega) (by omega)]; rfl), by omega, by omega, subIs_step HS HU.out HV.out (by unfold W32; omega) (by unfold W32; omega), HST.out, hb2⟩
      case measure => simp [intOf]; omega
     ·have hst:=hown.store (j:=k) (x:=u - bw) (by unfold W32; omega)
      rw [set_end s (n - (k + 1)) _ HS.1, show (((u - bw) : Nat) : Int) = (u : Int) - bw from by omega] at hst
      have hb2:=hbel.setCell (p:=⟨g, k, none⟩) (by rw [HG.out]; exact Nat.le_refl _) (.int .u32 ((u : Int) - bw))
      have HST:=Hd9 hst
      clear hown hst
      go_wp2_with fail
      go_roundw
      case rel => exact ⟨k + 1, 0, _, by go_num, congrArg (Value.int .u64) (by omega), by omega, by omega, subIs_step HS HU.out HV.out (by unfold W32; omega) (by omega), HST.out, hb2⟩
      case measure => simp [intOf]; omega

end Go.Proofs.YtiddbhhhmeopeaaGreatDoor


/- Walks: nat.Shl, nat.Shr, nat.Low. -/
namespace Go.Proofs.YtiddbhhhmeopeaaGreatDoor
set_option maxHeartbeats 64000000
open Go.RowKit
set_option linter.unusedVariables false
set_option linter.unusedSimpArgs false
set_option maxRecDepth 100000

theorem shl_any (x q l : Nat) (va : Value) (w : World) (ha : IsN w va x) (hx : len x ≤ 1099511627776) (hl : l < 32) (hn : 32 * q + l ≤ 1048576) :
  Calls Tryz.prog 232 #[va, .int .i64 ((32 * q + l : Nat) : Int)] w (RetN w (x * 2 ^ (32 * q + l))):=by
 obtain ⟨A, n, c, rfl, ha⟩:=ha
 have HC:=length_any _ A n c w ha
 rw [trim_dig, ha.len] at HC
 have HL:=Hd9 HC; clear HC
 have hlx : len x = n:=ha.len
 have hn40 : n ≤ 1099511627776:=by omega
 have HLX:=Hd9 hlx; clear hlx
 obtain ⟨k, hk⟩ : ∃ k : Nat, k = 32 * q + l:=⟨_, rfl⟩
 have h1 : (k : Int) / 32 = (q : Int):=by omega
 have h2 : (k : Int) % 32 = (l : Int):=by omega
 rw [← hk] at hn ⊢
 have HK:=Hd9 hk; clear hk
 obtain ⟨g, hg⟩ : ∃ g, g = w.heap.size:=⟨_, rfl⟩
 rcases Nat.eq_zero_or_pos n with h0 | h0
 ·have hz : x = 0:=len_eq_zero (by rw [HLX.out]; exact h0)
  subst h0; subst hz
  clear hg HK h1 h2
  have e : 0 * 2 ^ k = 0:=Nat.zero_mul _
  rw [e]
  clear e
  go_enter Tryz.func232, Tryz.ntmps232
  go_wp2_with (go_at_call 234; refine HL.out.mono ?_; rintro e w' ⟨rfl, rfl⟩)
  go_ret
  exact ⟨_, rfl, by rw [dig_zero]; exact Own.nil _ _, Below.refl _ _⟩
 ·have hnz : ((n : Int) == 0) = false:=by rw [beq_eq_false_iff_ne]; omega
  have hcap:=ha.cap
  have HG:=Hd9 hg; clear hg
  go_enter Tryz.func232, Tryz.ntmps232
  go_wp2_with (first
   | (go_at_call 234; refine HL.out.mono ?_; rintro e w' ⟨rfl, rfl⟩)
   | (at_make; refine wp_mk _ rfl _ _ rfl w.heap.size _ _ (q + n + 1) rfl rfl (by omega) (by omega) (by omega) (Nat.le_refl _) ?_))
  intro w1 o1 g1
  rw [← HG.out] at o1 ⊢
  have b1 : Below w.heap.size w w1:=(Below.refl _ _).grown g1 (Nat.le_refl _) (fun k h => by cases h)
  clear g1
  have hdn : (decide ((k : Int) < 0)) = false:=by simp
  have hd2 : (decide ((1048576 : Int) < k)) = false:=by simp; omega
  go_wp2_with fail
  go_loopw [37] (fun i wr => ∃ (j cy : Nat) (p : List Nat), i = .int .i64 j ∧ j ≤ n ∧ ShlIs x q l p j cy ∧ Own wr g (.slice (some ⟨g, 0, none⟩) (q + n + 1) (q + n + 1)) (p ++ [cy] ++ List.replicate (n - j) 0) ∧ Below w.heap.size w wr) (fun i _ => n - (intOf i).toNat)
  case atStart => exact ⟨0, 0, List.replicate q 0, rfl, by omega, shlIs_zero x q l, by rw [← List.replicate_succ', List.replicate_append_replicate, show q + 1 + (n - 0) = q + n + 1 from by omega]; exact o1, b1⟩
  case round =>
   obtain ⟨j, cy, p, rfl, hj, HS, hown, hbel⟩:=hrel
   clear o1 b1
   have hcy32 : cy < 4294967296:=Nat.lt_of_lt_of_le HS.2.2.1 (Nat.pow_le_pow_right (n:=2) (by omega) (show l ≤ 32 by omega))
   rcases Nat.eq_or_lt_of_le hj with hje | hjn
   ·have hfree:=hown.free (q + j)
    have hjn : n ≤ j:=by omega
    rw [show n - j = 0 from by omega, List.replicate_zero, List.append_nil] at hown
    have H:=length_any _ _ _ _ _ hown.sl
    have HT:=Hd9 (shlIs_end HS (by rw [HLX.out]; exact hjn) (show l ≤ 32 by omega))
    rw [HT.out] at H
    have hdl : (dig (x * 2 ^ (32 * q + l))).length ≤ q + n + 1:=by
     rw [← HT.out]
     have:=length_trim_le (p ++ [cy])
     rw [List.length_append, HS.1] at this
     have h3 : [cy].length = 1:=rfl
     omega
    have hcut:=hown.cut hdl
    rw [show (p ++ [cy]).take (dig (x * 2 ^ (32 * q + l))).length = dig (x * 2 ^ (32 * q + l)) by rw [← HT.out, trim_take], ← HK.out] at hcut
    rw [← HK.out] at hdl H
    obtain ⟨kk, hkk⟩ : ∃ kk, kk = (dig (x * 2 ^ k)).length:=⟨_, rfl⟩
    rw [← hkk] at hdl H
    have HKK:=Hd9 hkk; clear hkk
    have HL2:=Hd9 H; clear H
    have HHcut:=Hd9 hcut; clear hcut
    clear hown hje
    go_wp2_with (go_at_call 234; refine HL2.out.mono ?_; rintro e w' ⟨rfl, rfl⟩)
    go_ret
    refine ⟨_, rfl, ?_, hbel⟩
    have:=HHcut.out
    rw [← HKK.out] at this
    exact this.base_le (Nat.le_of_eq HG.out.symm)
   ·obtain ⟨b, off, u, rfl, _, hxc, HU, hu⟩:=ha.get hbel (k:=j) hjn
    have hf1:=hown.free (q + j)
    have hf2:=hown.free (q + j + 1)
    obtain ⟨z, hz, HZ, _⟩:=hown.cell (j:=q + j) (by omega)
    obtain ⟨z2, hz2, HZ2, _⟩:=hown.cell (j:=q + j + 1) (by omega)
    rw [show z = cy by rw [← HZ.out, nth_mid _ _ _ HS.1]] at hz
    have hor:=shl_or (u:=u) (show l ≤ 32 by omega) HS.2.2.1
    have hm1 : (u * 2 ^ l) % W32 < 4294967296:=Nat.mod_lt _ W32_pos
    have E1 : bits .or .u32 (cy : Int) (IntKind.u64.wrap ((u : Int) * 2 ^ l) % 4294967296) = (((cy + 2 ^ l * u) % W32 : Nat) : Int):=by
     rw [wrap_shl hu hl, show ((u * 2 ^ l : Nat) : Int) % 4294967296 = (((u * 2 ^ l) % W32 : Nat) : Int) from by unfold W32; omega, or_u32 _ _ hcy32 hm1, hor.1]
    have hst1:=hown.store (j:=q + j) (x:=(cy + 2 ^ l * u) % W32) (Nat.mod_lt _ W32_pos)
    rw [set_mid _ _ _ _ HS.1, show n - j = (n - (j + 1)) + 1 from by omega] at hst1
    have HS2:=shlIs_step HS HU.out hu
    have hc2 : (cy + 2 ^ l * u) / W32 < W32:=Nat.lt_of_lt_of_le HS2.2.2.1 (by unfold W32; exact Nat.pow_le_pow_right (n:=2) (by omega) (show l ≤ 32 by omega))
    have E2 : IntKind.u64.wrap ((u : Int) * 2 ^ l) / 4294967296 % 4294967296 = (((cy + 2 ^ l * u) / W32 : Nat) : Int):=by
     rw [wrap_shl hu hl, ← hor.2]
     rw [← hor.2] at hc2
     unfold W32 at hc2 ⊢
     omega
    have hst2:=hst1.store (j:=q + j + 1) (x:=(cy + 2 ^ l * u) / W32) hc2
    rw [set_end _ _ _ (show (p ++ [(cy + 2 ^ l * u) % W32]).length = q + j + 1 from HS2.1), ← E1, ← E2] at hst2
    have hb2:=(hbel.setCell (p:=⟨g, q + j, none⟩) (by rw [HG.out]; exact Nat.le_refl _) (.int .u32 (bits .or .u32 (cy : Int) (IntKind.u64.wrap ((u : Int) * 2 ^ l) % 4294967296)))).setCell (p:=⟨g, q + j + 1, none⟩) (by rw [HG.out]; exact Nat.le_refl _) (.int .u32 (IntKind.u64.wrap ((u : Int) * 2 ^ l) / 4294967296 % 4294967296))
    have HST:=Hd9 hst2
    have HS2':=Hd9 HS2
    clear hown hst1 hst2 E1 E2 hc2 hor hm1 HS2
    go_wp2_with fail
    go_roundw
    case rel => exact ⟨j + 1, _, _, by go_num, by omega, HS2'.out, HST.out, hb2⟩
    case measure => simp [intOf]; omega

end Go.Proofs.YtiddbhhhmeopeaaGreatDoor


/- Walks: nat.Shr. -/
namespace Go.Proofs.YtiddbhhhmeopeaaGreatDoor
set_option maxHeartbeats 64000000
open Go.RowKit
set_option linter.unusedVariables false
set_option linter.unusedSimpArgs false
set_option maxRecDepth 100000

theorem shr_any (x q l : Nat) (va : Value) (w : World) (ha : IsN w va x) (hx : len x ≤ 1099511627776) (hl : l < 32) (hn : 32 * q + l ≤ 9223372036854775807) :
  Calls Tryz.prog 242 #[va, .int .i64 ((32 * q + l : Nat) : Int)] w (RetN w (x / 2 ^ (32 * q + l))):=by
 obtain ⟨A, n, c, rfl, ha⟩:=ha
 have hlx : len x = n:=ha.len
 have hn40 : n ≤ 1099511627776:=by omega
 have HLX:=Hd9 hlx; clear hlx
 obtain ⟨k, hk⟩ : ∃ k : Nat, k = 32 * q + l:=⟨_, rfl⟩
 have h1 : (k : Int) / 32 = (q : Int):=by omega
 have h2 : (k : Int) % 32 = (l : Int):=by omega
 rw [← hk] at hn ⊢
 have HK:=Hd9 hk; clear hk
 obtain ⟨g, hg⟩ : ∃ g, g = w.heap.size:=⟨_, rfl⟩
 have HG:=Hd9 hg; clear hg
 have hdn : (decide ((k : Int) < 0)) = false:=by simp
 rcases Nat.lt_or_ge q n with hqn | hqn
 ·have hcap:=ha.cap
  have hcq : ¬ c = q:=by omega
  obtain ⟨b, off, rfl, hb, hpl⟩:=ha.place (by omega)
  have HPL:=Hd9 hpl; clear hpl
  go_enter Tryz.func242, Tryz.ntmps242
  go_wp2_with (at_make; refine wp_mk _ rfl _ _ rfl w.heap.size _ _ (n - q) rfl rfl (by omega) (by omega) (by omega) (Nat.le_refl _) ?_)
  intro w1 o1 g1
  rw [← HG.out] at o1 ⊢
  have b1 : Below w.heap.size w w1:=(Below.refl _ _).grown g1 (Nat.le_refl _) (fun k h => by cases h)
  clear g1
  go_wp2_with fail
  go_loopw [33] (fun i wr => ∃ (j : Nat) (s : List Nat), i = .int .i64 j ∧ j ≤ n - q ∧ DigsIs (x / 2 ^ (32 * q + l)) s j ∧ Own wr g (.slice (some ⟨g, 0, none⟩) (n - q) (n - q)) (s ++ List.replicate (n - q - j) 0) ∧ Below w.heap.size w wr) (fun i _ => n - q - (intOf i).toNat)
  case atStart => exact ⟨0, [], rfl, by omega, digsIs_zero _, o1, b1⟩
  case round =>
   obtain ⟨j, s, rfl, hj, HS, hown, hbel⟩:=hrel
   clear o1 b1
   rcases Nat.eq_or_lt_of_le hj with hje | hjn
   ·rw [hje, Nat.sub_self, List.replicate_zero, List.append_nil] at hown
    have H:=length_any _ _ _ _ _ hown.sl
    have HT:=Hd9 (digsIs_end HS (by rw [hje]; exact shr_small (Nat.le_of_eq HLX.out) (by omega)))
    rw [HT.out] at H
    have hdl : (dig (x / 2 ^ (32 * q + l))).length ≤ n - q:=by
     rw [← HT.out]
     have:=length_trim_le s
     rw [HS.1] at this
     omega
    have hcut:=hown.cut hdl
    rw [show s.take (dig (x / 2 ^ (32 * q + l))).length = dig (x / 2 ^ (32 * q + l)) by rw [← HT.out, trim_take], ← HK.out] at hcut
    rw [← HK.out] at hdl H
    obtain ⟨kk, hkk⟩ : ∃ kk, kk = (dig (x / 2 ^ k)).length:=⟨_, rfl⟩
    rw [← hkk] at hdl H
    have HKK:=Hd9 hkk; clear hkk
    have HL2:=Hd9 H; clear H
    have HHcut:=Hd9 hcut; clear hcut
    have hjj : n - q ≤ j:=by omega
    clear hown hje
    go_wp2_with (go_at_call 234; refine HL2.out.mono ?_; rintro e w' ⟨rfl, rfl⟩)
    go_ret
    refine ⟨_, rfl, ?_, hbel⟩
    have:=HHcut.out
    rw [← HKK.out] at this
    exact this.base_le (Nat.le_of_eq HG.out.symm)
   ·obtain ⟨u, hu⟩:=nm9 (nth (dig x) (q + j))
    have hu32 : u < 4294967296:=by rw [← hu]; exact (small_dig x).get _
    have hxc : wr.cell? ⟨b, off + q + j, none⟩ = some (.int .u32 (u : Nat)):=by
     have:=(hbel.cell (p:=⟨b, off + (q + j), none⟩) hb).trans (HPL.out (q + j) (by omega))
     rwa [hu, ← Nat.add_assoc] at this
    have HU:=Hd9 hu; clear hu
    have hf1:=hown.free j
    obtain ⟨z, hz, HZ, _⟩:=hown.cell (j:=j) (by omega)
    rw [show n - q - j = (n - q - (j + 1)) + 1 from by omega] at hown
    rcases Nat.lt_or_ge (q + j + 1) n with hv | hv
    ·obtain ⟨v, hve⟩:=nm9 (nth (dig x) (q + j + 1))
     have hv32 : v < 4294967296:=by rw [← hve]; exact (small_dig x).get _
     have hyc : wr.cell? ⟨b, off + (q + j + 1), none⟩ = some (.int .u32 (v : Nat)):=by
      have:=(hbel.cell (p:=⟨b, off + (q + j + 1), none⟩) hb).trans (HPL.out (q + j + 1) hv)
      rwa [hve] at this
     have hd:=shr_digit (l:=l) (by omega) HU.out hve
     have hst:=hown.store (j:=j) (x:=(u + W32 * v) / 2 ^ l % W32) (Nat.mod_lt _ W32_pos)
     have E : (((u + W32 * v) / 2 ^ l % W32 : Nat) : Int) = bits .or .u64 (u : Int) ((v : Int) * 4294967296) / 2 ^ l % 4294967296:=by
      rw [or_digit' v u hv32 hu32, Int.natCast_emod, Int.natCast_ediv, Int.natCast_pow]; rfl
     rw [set_end s (n - q - (j + 1)) _ HS.1, E] at hst
     have hb2:=hbel.setCell (p:=⟨g, j, none⟩) (by rw [HG.out]; exact Nat.le_refl _) (.int .u32 (bits .or .u64 (u : Int) ((v : Int) * 4294967296) / 2 ^ l % 4294967296))
     have HST:=Hd9 hst
     have HD:=Hd9 hd
     clear hown hst E hve hd
     go_wp2_with fail
     go_roundw
     case rel => exact ⟨j + 1, _, by go_num, by omega, digsIs_step HS HD.out, HST.out, hb2⟩
     case measure => simp [intOf]; omega
    ·have hve : nth (dig x) (q + j + 1) = 0:=nth_of_ge (by rw [length_dig, HLX.out]; exact hv)
     have hd:=shr_digit (l:=l) (by omega) HU.out hve
     rw [Nat.mul_zero, Nat.add_zero] at hd
     have hst:=hown.store (j:=j) (x:=u / 2 ^ l % W32) (Nat.mod_lt _ W32_pos)
     have E : ((u / 2 ^ l % W32 : Nat) : Int) = (u : Int) / 2 ^ l % 4294967296:=by
      rw [Int.natCast_emod, Int.natCast_ediv, Int.natCast_pow]; rfl
     rw [set_end s (n - q - (j + 1)) _ HS.1, E] at hst
     have hb2:=hbel.setCell (p:=⟨g, j, none⟩) (by rw [HG.out]; exact Nat.le_refl _) (.int .u32 ((u : Int) / 2 ^ l % 4294967296))
     have HST:=Hd9 hst
     have HD:=Hd9 hd
     clear hown hst E hve hd
     go_wp2_with fail
     go_roundw
     case rel => exact ⟨j + 1, _, by go_num, by omega, digsIs_step HS HD.out, HST.out, hb2⟩
     case measure => simp [intOf]; omega
 ·have hz:=shr_zero (l:=l) (Nat.le_of_eq HLX.out) hqn
  rw [← HK.out] at hz
  rw [hz]
  clear hz
  go_enter Tryz.func242, Tryz.ntmps242
  go_wp2_with fail
  go_ret
  exact ⟨_, rfl, by rw [dig_zero]; exact Own.nil _ _, Below.refl _ _⟩
end Go.Proofs.YtiddbhhhmeopeaaGreatDoor


/- Literals that stand for numbers. -/
namespace Go.Proofs.YtiddbhhhmeopeaaGreatDoor
set_option maxHeartbeats 64000000
open Go.RowKit
set_option linter.unusedVariables false
set_option linter.unusedSimpArgs false
set_option maxRecDepth 100000

theorem isN_of_own {w : World} {base : Nat} {v : Value} {l : List Nat} {x : Nat} (h : Own w base v l) (e : l = dig x) : IsN w v x:=by
 subst e
 obtain ⟨A, c, e, hs, _⟩:=h.form
 exact ⟨A, _, c, e, hs⟩
theorem len_le1 {x : Nat} (h : x < 4294967296) : len x ≤ 1:=len_le (by unfold W32; omega)
theorem len_le2 {x : Nat} (h : x < 18446744073709551616) : len x ≤ 2:=len_le (by unfold W32; omega)

end Go.Proofs.YtiddbhhhmeopeaaGreatDoor


/- Plain mathematics of products, digit by digit: nothing of the program. -/
namespace Go.Proofs.YtiddbhhhmeopeaaGreatDoor
set_option maxHeartbeats 64000000
def MulAdd (t b : List Nat) (m : Nat) (s : List Nat) (i c : Nat) : Prop:=s.length = i ∧ Small s ∧ c < W32 ∧ val s + W32 ^ i * c = val (t.take i) + val (b.take i) * m
theorem mulAdd_zero (t b : List Nat) (m : Nat) : MulAdd t b m [] 0 0:=⟨rfl, small_nil, W32_pos, by simp [val_nil]⟩
theorem mul_digits {u m : Nat} (hu : u < 4294967296) (hm : m < 4294967296) : u * m ≤ 18446744065119617025:=
 Nat.mul_le_mul (show u ≤ 4294967295 by omega) (show m ≤ 4294967295 by omega)
theorem mulAdd_step {t b s : List Nat} {m i c u v p : Nat} (h : MulAdd t b m s i c) (hu : nth b i = u) (hv : nth t i = v) (hp : p = u * m) (hu32 : u < 4294967296) (hv32 : v < 4294967296) (hm : m < 4294967296) :
  MulAdd t b m (s ++ [(c + (p + v)) % W32]) (i + 1) ((c + (p + v)) / W32):=by
 obtain ⟨h1, h2, h3, h4⟩:=h
 have hb:=mul_digits hu32 hm
 refine ⟨by rw [List.length_append, h1]; rfl, small_append h2 (small_one (Nat.mod_lt _ W32_pos)), ?_, ?_⟩
 ·rw [← hp] at hb
  unfold W32 at h3 ⊢
  omega
 ·rw [carry_step s i _ h1, val_take_succ, val_take_succ, hu, hv, hp, Nat.add_mul, Nat.mul_add, Nat.mul_add, Nat.mul_assoc]
  omega

theorem nth_row {a s t z : List Nat} {off i : Nat} (ha : a.length = off) (hs : s.length = i) (hi : i < t.length) : nth (a ++ s ++ t.drop i ++ z) (off + i) = nth t i:=by
 have e : a ++ s ++ t.drop i ++ z = a ++ s ++ [nth t i] ++ (t.drop (i + 1) ++ z):=by
  rw [List.drop_eq_getElem_cons hi, nth_eq, List.getElem?_eq_getElem hi]
  simp only [List.append_assoc, List.cons_append, List.nil_append, Option.getD_some]
 rw [e, nth_mid _ _ _ (by rw [List.length_append, ha, hs])]
theorem set_row {a s t z : List Nat} {off i : Nat} (x : Nat) (ha : a.length = off) (hs : s.length = i) (hi : i < t.length) : (a ++ s ++ t.drop i ++ z).set (off + i) x = a ++ (s ++ [x]) ++ t.drop (i + 1) ++ z:=by
 have e : a ++ s ++ t.drop i ++ z = a ++ s ++ [nth t i] ++ (t.drop (i + 1) ++ z):=by
  rw [List.drop_eq_getElem_cons hi, nth_eq, List.getElem?_eq_getElem hi]
  simp only [List.append_assoc, List.cons_append, List.nil_append, Option.getD_some]
 rw [e, set_mid _ _ _ _ (by rw [List.length_append, ha, hs])]
 simp
theorem drop_all {t : List Nat} {n : Nat} (h : t.length = n) : t.drop n = []:=List.drop_eq_nil_of_le (by omega)
def MulIs (x y i : Nat) (q : List Nat) : Prop:=q.length = i + len y ∧ Small q ∧ val q = val ((dig x).take i) * y
theorem mulIs_zero (x y : Nat) : MulIs x y 0 (List.replicate (len y) 0):=⟨by simp, small_replicate _, by simp [val_replicate, val_nil]⟩
theorem mulIs_step {x y i u cy : Nat} {q s : List Nat} (h : MulIs x y i q) (hu : nth (dig x) i = u) (hs : MulAdd (q.drop i) (dig y) u s (len y) cy) : MulIs x y (i + 1) (q.take i ++ s ++ [cy]):=by
 obtain ⟨h1, h2, h3⟩:=h
 obtain ⟨s1, s2, s3, s4⟩:=hs
 have hl : (q.take i).length = i:=by rw [List.length_take]; omega
 have hd : (q.drop i).length = len y:=by rw [List.length_drop]; omega
 refine ⟨by simp only [List.length_append, hl, s1, List.length_cons, List.length_nil]; omega, small_append (small_append (small_take h2 i) s2) (small_one s3), ?_⟩
 rw [List.take_of_length_le (Nat.le_of_eq hd), List.take_of_length_le (Nat.le_of_eq (length_dig y)), val_dig] at s4
 have e1 : val (q.take i ++ s ++ [cy]) = val (q.take i) + W32 ^ i * (val s + W32 ^ len y * cy):=by
  rw [List.append_assoc, val_append, hl, val_append, s1, val_cons, val_nil, Nat.mul_zero, Nat.add_zero]
 have e2:=val_split q i
 rw [e1, s4, val_take_succ, hu, Nat.add_mul, ← h3, Nat.mul_add, e2]
 have : W32 ^ i * (y * u) = W32 ^ i * u * y:=by ac_rfl
 omega
theorem mulIs_end {x y i : Nat} {q : List Nat} (h : MulIs x y i q) (hi : len x ≤ i) : trim q = dig (x * y):=by
 obtain ⟨h1, h2, h3⟩:=h
 rw [List.take_of_length_le (by rw [length_dig]; exact hi), val_dig] at h3
 rw [← h3, dig_val h2]
theorem mulIs_len {x y i : Nat} {q : List Nat} (h : MulIs x y i q) : (q.take i).length = i ∧ (q.drop i).length = len y:=by
 have:=h.1
 constructor
 ·rw [List.length_take]; omega
 ·rw [List.length_drop]; omega

end Go.Proofs.YtiddbhhhmeopeaaGreatDoor


/- Walks: product.addMultiple, Mul, Square, Small. -/
namespace Go.Proofs.YtiddbhhhmeopeaaGreatDoor
set_option maxHeartbeats 64000000
open Go.RowKit
set_option linter.unusedVariables false
set_option linter.unusedSimpArgs false
set_option maxRecDepth 100000
def RetAdd (w0 : World) (g N n : Nat) (a t z l : List Nat) (m : Nat) (e : Ending) (w' : World) : Prop:=
 ∃ (cy : Nat) (s : List Nat), e = .returned (.int .u32 (cy : Int)) ∧ cy < 4294967296 ∧ MulAdd t l m s n cy ∧ Own w' w0.heap.size (.slice (some ⟨g, 0, none⟩) N N) (a ++ s ++ z) ∧ Below w0.heap.size w0 w'

theorem addMul_any (w0 w : World) (g off N M n c m : Nat) (B : Option Addr) (a t z l : List Nat) (hown : Own w w0.heap.size (.slice (some ⟨g, 0, none⟩) N N) (a ++ t ++ z)) (ha : a.length = off) (ht : t.length = n) (hM : off + M = N) (hn : n ≤ M)
  (hb : Sl w0 B n c l) (hbel : Below w0.heap.size w0 w) (hm : m < 4294967296) (hN : N ≤ 4398046511104) :
  Calls Tryz.prog 243 #[.slice (some ⟨g, off, none⟩) M M, .slice B n c, .int .u32 (m : Int)] w (RetAdd w0 g N n a t z l m):=by
 have HA:=Hd9 ha; clear ha
 have HT:=Hd9 ht; clear ht
 have hg:=hown.row.2
 have HG:=Hd9 hg; clear hg
 have h0 : Own w w0.heap.size (.slice (some ⟨g, 0, none⟩) N N) (a ++ [] ++ t.drop 0 ++ z):=by simpa using hown
 clear hown
 go_enter Tryz.func243, Tryz.ntmps243
 go_wp2_with fail
 go_loopw [7, 12] (fun t' i wr => ∃ (k cy : Nat) (s : List Nat), i = .int .i64 k ∧ t' = .int .u64 cy ∧ k ≤ n ∧ MulAdd t l m s k cy ∧ Own wr w0.heap.size (.slice (some ⟨g, 0, none⟩) N N) (a ++ s ++ t.drop k ++ z) ∧ Below w0.heap.size w0 wr) (fun _ i _ => n - (intOf i).toNat)
 case atStart => exact ⟨0, 0, [], rfl, rfl, by omega, mulAdd_zero t l m, h0, hbel⟩
 case round =>
  obtain ⟨k, cy, s, rfl, rfl, hk, HS, hown, hbe⟩:=hrel
  clear h0 hbel
  have hcy : cy < 4294967296:=HS.2.2.1
  rcases Nat.eq_or_lt_of_le hk with rfl | hkn
  ·rw [drop_all HT.out, List.append_nil] at hown
   go_wp2_with fail
   go_ret
   exact ⟨cy, s, rfl, hcy, HS, hown, hbe⟩
  ·have hfree:=hown.free (off + k)
   obtain ⟨v, hz, HV, hv⟩:=hown.cell (j:=off + k) (by omega)
   obtain ⟨b, offb, u, rfl, _, hxc, HU, hu⟩:=hb.get hbe (k:=k) hkn
   have hV : nth t k = v:=by rw [← HV.out, nth_row HA.out HS.1 (by rw [HT.out]; exact hkn)]
   obtain ⟨p, hp⟩ : ∃ p, p = u * m:=⟨_, rfl⟩
   have hpb : p ≤ 18446744065119617025:=by rw [hp]; exact mul_digits hu hm
   have hw : IntKind.u64.wrap ((u : Int) * (m : Int)) = (p : Int):=by
    rw [← Int.natCast_mul, ← hp, IntKind.wrap_u64]
    omega
   have hst:=hown.store (j:=off + k) (x:=(cy + (p + v)) % W32) (Nat.mod_lt _ W32_pos)
   rw [set_row _ HA.out HS.1 (by rw [HT.out]; exact hkn), show (((cy + (p + v)) % W32 : Nat) : Int) = ((cy : Int) + (p + v)) % 4294967296 from by unfold W32; omega] at hst
   have hb2:=hbe.setCell (p:=⟨g, off + k, none⟩) HG.out (.int .u32 (((cy : Int) + (p + v)) % 4294967296))
   have HST:=Hd9 hst
   have HS2:=Hd9 (mulAdd_step HS HU.out hV hp hu hv hm)
   clear hown hst HV hV hp
   go_wp2_with fail
   go_roundw
   case rel => exact ⟨k + 1, (cy + (p + v)) / W32, _, by go_num, congrArg (Value.int .u64) (by unfold W32; omega), by omega, HS2.out, HST.out, hb2⟩
   case measure => simp [intOf]; omega

theorem mul_any (x y : Nat) (va vb : Value) (w : World) (ha : IsN w va x) (hb : IsN w vb y) (hx : len x ≤ 1099511627776) (hy : len y ≤ 1099511627776) :
  Calls Tryz.prog 209 #[va, vb] w (RetN w (x * y)):=by
 obtain ⟨A, n, c, rfl, ha⟩:=ha
 obtain ⟨B, m, d, rfl, hb⟩:=hb
 have hlx : len x = n:=ha.len
 have hly : len y = m:=hb.len
 have hn : n ≤ 1099511627776:=by omega
 have hm : m ≤ 1099511627776:=by omega
 have HLX:=Hd9 hlx; clear hlx
 have HLY:=Hd9 hly; clear hly
 go_enter Tryz.func209, Tryz.ntmps209
 go_wp2_with (at_make; refine wp_mk _ rfl _ _ rfl w.heap.size _ _ (n + m) rfl rfl (by omega) (by omega) (by omega) (Nat.le_refl _) ?_)
 intro w1 h1 g1
 have b1 : Below w.heap.size w w1:=(Below.refl _ _).grown g1 (Nat.le_refl _) (fun k h => by cases h)
 obtain ⟨g, hg⟩ : ∃ g, g = w.heap.size:=⟨_, rfl⟩
 rw [← hg] at h1 ⊢
 have HG:=Hd9 hg; clear hg
 clear g1
 have h0 : Own w1 g (.slice (some ⟨g, 0, none⟩) (n + m) (n + m)) (List.replicate (len y) 0 ++ List.replicate (n - 0) 0):=by
  rw [List.replicate_append_replicate, HLY.out, show m + (n - 0) = n + m from by omega]; exact h1
 clear h1
 go_wp2_with fail
 go_loopw [17] (fun i wr => ∃ (k : Nat) (q : List Nat), i = .int .i64 k ∧ k ≤ n ∧ MulIs x y k q ∧ Own wr g (.slice (some ⟨g, 0, none⟩) (n + m) (n + m)) (q ++ List.replicate (n - k) 0) ∧ Below w.heap.size w wr) (fun i _ => n - (intOf i).toNat)
 case atStart => exact ⟨0, _, rfl, by omega, mulIs_zero x y, h0, b1⟩
 case round =>
  obtain ⟨k, q, rfl, hk, HS, hown, hbe⟩:=hrel
  clear h0 b1
  rcases Nat.eq_or_lt_of_le hk with hke | hkn
  ·have hkn : n ≤ k:=by omega
   rw [show n - k = 0 from by omega, List.replicate_zero, List.append_nil] at hown
   have hl:=HS.1
   have HTR:=Hd9 (trim_any q _ _ _ wr hown.sl (by omega))
   have HE:=Hd9 (mulIs_end HS (by rw [HLX.out]; exact hkn))
   clear hown hl hke
   go_wp2_with fail
   refine HTR.out.mono ?_
   rintro e w' ⟨v, rfl, o⟩
   go_wp2_with fail
   go_ret
   exact ⟨_, rfl, by rw [← HE.out]; exact o.own.base_le hbe.size, hbe.trans (o.below.mono hbe.size)⟩
  ·obtain ⟨b, off, u, rfl, _, hxc, HU, hu⟩:=ha.get hbe (k:=k) hkn
   obtain ⟨hl1, hl2⟩:=mulIs_len HS
   rw [← List.take_append_drop k q] at hown
   have HAD:=Hd9 (addMul_any w wr g k (n + m) (n + m - k) m d u B (q.take k) (q.drop k) (List.replicate (n - k) 0) (dig y) (by rw [← HG.out]; exact hown) hl1 (by rw [hl2, HLY.out]) (by omega) (by omega) hb hbe hu (by omega))
   have HL1:=Hd9 hl1
   clear hown hl1 hl2
   go_wp2_with fail
   refine HAD.out.mono ?_
   rintro e w2 ⟨cy, s, rfl, hcy, hs, hown2, hbe2⟩
   rw [← HG.out] at hown2
   have hfree:=hown2.free (k + m)
   obtain ⟨v0, hz, _, _⟩:=hown2.cell (j:=k + m) (by omega)
   have hst:=hown2.store (j:=k + m) (x:=cy) hcy
   rw [show n - k = n - (k + 1) + 1 from by omega, set_end _ _ _ (show (q.take k ++ s).length = k + m by rw [List.length_append, HL1.out, hs.1])] at hst
   have hb3:=hbe2.setCell (p:=⟨g, k + m, none⟩) (by rw [HG.out]; exact Nat.le_refl _) (.int .u32 (cy : Int))
   have HST:=Hd9 hst
   have HS2:=Hd9 (mulIs_step HS HU.out (by rw [HLY.out]; exact hs))
   clear hst hown2
   go_wp2_with fail
   go_roundw
   case rel => exact ⟨k + 1, _, by go_num, by omega, HS2.out, HST.out, hb3⟩
   case measure => simp [intOf]; omega

end Go.Proofs.YtiddbhhhmeopeaaGreatDoor


/- Plain mathematics of long division: nothing of the program. -/
namespace Go.Proofs.YtiddbhhhmeopeaaGreatDoor
set_option maxHeartbeats 64000000
def MulSub (t b : List Nat) (m : Nat) (s : List Nat) (i c : Nat) : Prop:=s.length = i ∧ Small s ∧ c < W32 ∧ val s + val (b.take i) * m = val (t.take i) + W32 ^ i * c
theorem mulSub_zero (t b : List Nat) (m : Nat) : MulSub t b m [] 0 0:=⟨rfl, small_nil, W32_pos, by simp [val_nil]⟩
theorem mulSub_step {t b s : List Nat} {m i c u v p d c' : Nat} (h : MulSub t b m s i c) (hu : nth b i = u) (hv : nth t i = v) (hp : p = u * m) (hd : c + p + d = v + 4294967296 * c') (hd2 : d < 4294967296) (hc : c' < 4294967296) :
  MulSub t b m (s ++ [d]) (i + 1) c':=by
 obtain ⟨h1, h2, h3, h4⟩:=h
 refine ⟨by rw [List.length_append, h1]; rfl, small_append h2 (small_one hd2), hc, ?_⟩
 rw [val_append, h1, val_cons, val_nil, Nat.mul_zero, Nat.add_zero, val_take_succ, val_take_succ, hu, hv, Nat.pow_succ, Nat.add_mul, Nat.mul_assoc (W32 ^ i) u m, ← hp, Nat.mul_assoc]
 have:=congrArg (W32 ^ i * ·) hd
 simp only [Nat.mul_add] at this
 rw [show (4294967296 : Nat) = W32 from rfl] at this
 omega
def DivSt (y n R th dg bw : Nat) (s : List Nat) : Prop:=s.length = n ∧ Small s ∧ val s + y * dg + W32 ^ n * th = R + W32 ^ n * bw ∧ R / y ≤ dg
theorem row_top {t : List Nat} {n : Nat} (ht : t.length = n + 1) : val t = val (t.take n) + W32 ^ n * nth t n:=by
 rw [← val_take_succ, List.take_of_length_le (by omega)]
theorem guess {y n R t0 t1 dv : Nat} {t : List Nat} (ht : t.length = n + 1 + 1) (hs : Small t) (hR : R = val t) (h1 : nth t (n + 1) = t1) (h0 : nth t n = t0) (hy : len y = n + 1) (hdv : nth (dig y) n = dv) (hlt : R < 4294967296 * y) :
  0 < dv ∧ R / y ≤ (t0 + 4294967296 * t1) / dv ∧ R / y ≤ 4294967295:=by
 have hyp : 0 < y:=by
  rcases Nat.eq_zero_or_pos y with h | h
  ·subst h; rw [len_zero] at hy; omega
  ·exact h
 have ey : y = val ((dig y).take n) + W32 ^ n * dv:=by
  have:=row_top (t:=dig y) hy
  rwa [val_dig, hdv] at this
 have hlo:=val_lt (small_take (small_dig y) n)
 rw [List.length_take, length_dig, Nat.min_eq_left (by omega)] at hlo
 have hp:=pow_len_le hyp
 rw [hy, Nat.add_sub_cancel] at hp
 have hd : 0 < dv:=by
  rcases Nat.eq_zero_or_pos dv with h | h
  ·subst h; rw [Nat.mul_zero, Nat.add_zero] at ey; omega
  ·exact h
 refine ⟨hd, ?_, ?_⟩
 ·rw [Nat.le_div_iff_mul_le hd]
  have e1:=row_top ht
  have e2:=val_take_succ t n
  have hl:=val_lt (small_take hs n)
  rw [List.length_take, Nat.min_eq_left (by omega)] at hl
  rw [h1] at e1
  rw [h0] at e2
  have hq : R / y * y ≤ R:=Nat.div_mul_le_self R y
  have hq2 : W32 ^ n * (R / y * dv) ≤ R / y * y:=by
   rw [Nat.mul_left_comm]
   exact Nat.mul_le_mul_left _ (by omega)
  have : W32 ^ n * (R / y * dv) < W32 ^ n * (t0 + 4294967296 * t1 + 1):=by
   have e3 : W32 ^ n * (t0 + 4294967296 * t1 + 1) = W32 ^ n * t0 + W32 ^ (n + 1) * t1 + W32 ^ n:=by
    rw [Nat.mul_add, Nat.mul_add, Nat.pow_succ, Nat.mul_assoc, Nat.mul_one]
    rfl
   omega
  have:=Nat.lt_of_mul_lt_mul_left this
  omega
 ·have : R / y < 4294967296:=(Nat.div_lt_iff_lt_mul hyp).2 hlt
  omega
theorem divSt_start {y n R th dg bw : Nat} {t s : List Nat} (ht : t.length = n + 1) (hR : R = val t) (hth : nth t n = th) (hy : len y = n) (h : MulSub t (dig y) dg s n bw) (hd : R / y ≤ dg) : DivSt y n R th dg bw s:=by
 obtain ⟨h1, h2, h3, h4⟩:=h
 refine ⟨h1, h2, ?_, hd⟩
 rw [List.take_of_length_le (Nat.le_of_eq hy), val_dig] at h4
 have:=row_top ht
 rw [hth] at this
 omega
theorem divSt_end {y n R th dg bw : Nat} {s : List Nat} (h : DivSt y n R th dg bw s) (hle : bw ≤ th) (hy : len y = n) (hp : 0 < y) : dg = R / y ∧ th = bw ∧ val s = R % y:=by
 obtain ⟨h1, h2, h3, h4⟩:=h
 have hm:=Nat.mul_le_mul_left (W32 ^ n) hle
 have h5 : dg ≤ R / y:=by
  rw [Nat.le_div_iff_mul_le hp, Nat.mul_comm]
  omega
 have h6 : dg = R / y:=Nat.le_antisymm h5 h4
 have h7:=Nat.div_add_mod R y
 rw [← h6] at h7
 have h8:=Nat.mod_lt R hp
 have h9:=lt_pow_len y
 rw [hy] at h9
 obtain ⟨e, rfl⟩ : ∃ e, th = bw + e:=⟨th - bw, by omega⟩
 rw [Nat.mul_add] at h3
 have he : e = 0:=by
  rcases Nat.eq_zero_or_pos e with h | h
  ·exact h
  ·have:=Nat.mul_le_mul_left (W32 ^ n) h
   omega
 subst he
 exact ⟨h6, rfl, by omega⟩
theorem divSt_pos {y n R th dg bw : Nat} {s : List Nat} (h : DivSt y n R th dg bw s) (hlt : th < bw) (hp : 0 < y) : R / y < dg:=by
 obtain ⟨h1, h2, h3, h4⟩:=h
 have hm:=Nat.mul_le_mul_left (W32 ^ n) (show th + 1 ≤ bw from hlt)
 rw [Nat.mul_add] at hm
 have hs:=val_lt h2
 rw [h1] at hs
 rw [Nat.div_lt_iff_lt_mul hp, Nat.mul_comm]
 omega
theorem divSt_step {y n R th dg bw c : Nat} {s s' : List Nat} (h : DivSt y n R th dg bw s) (hlt : th < bw) (hp : 0 < y) (hy : len y = n) (ha : MulAdd s (dig y) 1 s' n c) (hc : c ≤ 1) : DivSt y n R th (dg - 1) (bw - c) s':=by
 have h5:=divSt_pos h hlt hp
 have h6:=Nat.lt_of_le_of_lt (Nat.zero_le _) h5
 obtain ⟨h1, h2, h3, h4⟩:=h
 obtain ⟨a1, a2, a3, a4⟩:=ha
 refine ⟨a1, a2, ?_, by omega⟩
 rw [List.take_of_length_le (Nat.le_of_eq h1), List.take_of_length_le (Nat.le_of_eq hy), val_dig, Nat.mul_one] at a4
 obtain ⟨d, rfl⟩ : ∃ d, dg = d + 1:=⟨dg - 1, by omega⟩
 obtain ⟨b, rfl⟩ : ∃ b, bw = b + c:=⟨bw - c, by omega⟩
 rw [Nat.add_sub_cancel, Nat.add_sub_cancel]
 rw [Nat.mul_add, Nat.mul_one, Nat.mul_add] at h3
 omega
def LongSt (X Y n k : Nat) (lo mid z qs : List Nat) : Prop:=lo.length = k ∧ mid.length = n ∧ val z = 0 ∧ val mid < Y ∧ val lo + W32 ^ k * (val mid + Y * val qs) = X
theorem longSt_start {X Y n k : Nat} {R : List Nat} (hs : Small R) (hX : val R = X) (hl : R.length = n + k) (hlt : X < W32 ^ k * Y) : LongSt X Y n k (R.take k) (R.drop k) [] []:=by
 refine ⟨by rw [List.length_take]; omega, by rw [List.length_drop]; omega, rfl, ?_, ?_⟩
 ·rw [val_drop R hs, Nat.div_lt_iff_lt_mul (Nat.pow_pos W32_pos), Nat.mul_comm, hX]
  exact hlt
 ·rw [val_nil, Nat.mul_zero, Nat.add_zero, ← val_split, hX]
theorem longSt_lt {X Y n k u : Nat} {lo mid z qs : List Nat} (h : LongSt X Y n k lo mid z qs) (hu : u < 4294967296) : val (u :: mid) < 4294967296 * Y:=by
 obtain ⟨h1, h2, h3, h4, h5⟩:=h
 rw [val_cons]
 have:=Nat.mul_le_mul_left W32 (show val mid + 1 ≤ Y from h4)
 rw [Nat.mul_add] at this
 unfold W32 at this ⊢
 omega
theorem longSt_step {X Y n k u : Nat} {lo mid z qs s : List Nat} (h : LongSt X Y n (k + 1) lo mid z qs) (hu : nth lo k = u) (hY : 0 < Y) (hs : s.length = n) (hv : val s = val (u :: mid) % Y) :
  LongSt X Y n k (lo.take k) s (0 :: z) (val (u :: mid) / Y :: qs):=by
 obtain ⟨h1, h2, h3, h4, h5⟩:=h
 refine ⟨by rw [List.length_take]; omega, hs, by rw [val_cons, h3, Nat.mul_zero], by rw [hv]; exact Nat.mod_lt _ hY, ?_⟩
 have e1:=val_take_succ lo k
 rw [List.take_of_length_le (Nat.le_of_eq h1), hu] at e1
 have e2:=Nat.div_add_mod (val (u :: mid)) Y
 rw [← h5, hv, val_cons (val (u :: mid) / Y), e1, Nat.pow_succ, Nat.add_assoc, Nat.mul_add Y, ← Nat.add_assoc (val (u :: mid) % Y), Nat.add_comm (val (u :: mid) % Y), e2, val_cons]
 simp only [Nat.mul_add, Nat.mul_assoc]
 rw [Nat.mul_left_comm Y W32]
 omega
theorem longSt_end {X Y n : Nat} {lo mid z qs : List Nat} (h : LongSt X Y n 0 lo mid z qs) : val qs = X / Y ∧ val (lo ++ mid ++ z) = X % Y:=by
 obtain ⟨h1, h2, h3, h4, h5⟩:=h
 have hl : lo = []:=List.eq_nil_of_length_eq_zero h1
 subst hl
 rw [val_nil, Nat.zero_add, Nat.pow_zero, Nat.one_mul] at h5
 refine ⟨?_, ?_⟩
 ·rw [← h5, Nat.add_mul_div_left _ _ (by omega), Nat.div_eq_of_lt h4, Nat.zero_add]
 ·rw [List.nil_append, val_append, h3, Nat.mul_zero, Nat.add_zero, ← h5, Nat.add_mul_mod_self_left, Nat.mod_eq_of_lt h4]
def ShortSt (x d k r : Nat) (qs : List Nat) : Prop:=Small qs ∧ r < d ∧ val (dig x) = val ((dig x).take k) + W32 ^ k * (r + d * val qs)
theorem shortSt_start (x : Nat) {d : Nat} (hd : 0 < d) : ShortSt x d (len x) 0 []:=⟨small_nil, hd, by rw [List.take_of_length_le (l:=dig x) (Nat.le_of_eq (length_dig x)), val_nil]; simp⟩
theorem shortSt_step {x d k r u : Nat} {qs : List Nat} (h : ShortSt x d (k + 1) r qs) (hu : nth (dig x) k = u) (hu2 : u < 4294967296) : ShortSt x d k ((u + 4294967296 * r) % d) ((u + 4294967296 * r) / d :: qs) ∧ (u + 4294967296 * r) / d < 4294967296 ∧ (u + 4294967296 * r) % d < d:=by
 obtain ⟨h1, h2, h3⟩:=h
 have hd : 0 < d:=by omega
 have hq : (u + 4294967296 * r) / d < 4294967296:=by
  rw [Nat.div_lt_iff_lt_mul hd]
  omega
 refine ⟨⟨small_cons hq h1, Nat.mod_lt _ hd, ?_⟩, hq, Nat.mod_lt _ hd⟩
 have e:=Nat.div_add_mod (u + 4294967296 * r) d
 rw [h3, val_take_succ, hu, val_cons, Nat.mul_add d, ← Nat.add_assoc ((u + 4294967296 * r) % d), Nat.add_comm ((u + 4294967296 * r) % d), e, Nat.pow_succ]
 simp only [Nat.mul_add, Nat.mul_assoc]
 rw [Nat.mul_left_comm d W32, show (4294967296 : Nat) = W32 from rfl]
 omega
theorem shortSt_end {x d r : Nat} {qs : List Nat} (h : ShortSt x d 0 r qs) : trim qs = dig (x / d) ∧ r = x % d:=by
 obtain ⟨h1, h2, h3⟩:=h
 rw [val_dig, List.take_zero, val_nil, Nat.zero_add, Nat.pow_zero, Nat.one_mul] at h3
 refine ⟨?_, ?_⟩
 ·rw [← dig_val h1]
  congr 1
  rw [h3, Nat.add_mul_div_left _ _ (by omega), Nat.div_eq_of_lt h2, Nat.zero_add]
 ·rw [h3, Nat.add_mul_mod_self_left, Nat.mod_eq_of_lt h2]

theorem len_div (x y : Nat) : len (x / y) ≤ len x:=len_mono (Nat.div_le_self _ _)
theorem len_mod {x y : Nat} (h : 0 < y) : len (x % y) ≤ len y:=len_mono (Nat.le_of_lt (Nat.mod_lt _ h))

theorem nth_trim {l : List Nat} (i : Nat) (hs : Small l) : nth (dig (val l)) i = nth l i:=by
 rw [dig_val hs]
 rcases Nat.lt_or_ge i (trim l).length with h | h
 ·have:=trim_take l
  rw [← this, nth_eq, nth_eq, List.getElem?_take_of_lt h]
 ·rw [nth_of_ge h, nth_eq]
  have h1:=val_split l i
  have h2:=val_take l hs i
  have h3 : val l < W32 ^ i:=by
   have:=lt_pow_len (val l)
   refine Nat.lt_of_lt_of_le this (Nat.pow_le_pow_right W32_pos ?_)
   unfold len
   rw [dig_val hs]
   exact h
  have h4:=val_take_succ l i
  have h5:=val_take l hs (i + 1)
  rw [Nat.mod_eq_of_lt h3] at h2
  rw [Nat.mod_eq_of_lt (Nat.lt_of_lt_of_le h3 (Nat.pow_le_pow_right W32_pos (by omega)))] at h5
  have h6 : W32 ^ i * nth l i = 0:=by omega
  have h7 : nth l i = 0:=by
   rcases Nat.mul_eq_zero.1 h6 with h | h
   ·have:=Nat.pow_pos (n:=i) W32_pos
    omega
   ·exact h
  rw [← nth_eq, h7]

end Go.Proofs.YtiddbhhhmeopeaaGreatDoor


/- Walks: bits.Add32, bits.Div32; quotient.subtractMultiple, addBack, Small. -/
namespace Go.Proofs.YtiddbhhhmeopeaaGreatDoor
set_option maxHeartbeats 64000000
open Go.RowKit
set_option linter.unusedVariables false
set_option linter.unusedSimpArgs false
set_option maxRecDepth 100000
theorem grown_set {w w' : World} {g : Nat} (h : w.grownBy w' (some g)) (j : Nat) (v : Value) : w.grownBy (w'.setCell ⟨g, j, none⟩ v) (some g):=
 ⟨h.os, h.tape, h.output, by have:=h.size; simpa [World.setCell] using this, fun k hk hne => by
  rw [heap_setCell_other w' ⟨g, j, none⟩ k v (fun e => hne (by rw [e]))]
  exact h.block k hk hne⟩
theorem grown_trans {a b c : World} {row : Option Nat} (h : a.grownBy b row) (k : b.grownBy c row) : a.grownBy c row:=
 ⟨k.os.trans h.os, k.tape.trans h.tape, k.output.trans h.output, Nat.le_trans h.size k.size, fun i hi hne => (k.block i (Nat.lt_of_lt_of_le hi h.size) hne).trans (h.block i hi hne)⟩
theorem grown_drewN (w : World) (n : Nat) (row : Option Nat) : w.grownBy (w.drewN n) row:=⟨rfl, rfl, rfl, Nat.le_refl _, fun _ _ _ => rfl⟩
theorem grown_below {w0 w w' : World} {g : Nat} (hb : Below w0.heap.size w0 w) (h : w.grownBy w' (some g)) (hg : w0.heap.size ≤ g) : Below w0.heap.size w0 w':=
 hb.grown h hb.size (fun k hk => by injection hk with hk; omega)

theorem mod_nat {q : Nat} (h : q < 4294967296) : (q : Int) % 4294967296 = q:=by omega

theorem add32_any (x y c : Nat) (w : World) (hx : x < 4294967296) (hy : y < 4294967296) (hc : c ≤ 1) :
  Calls Tryz.prog 278 #[.int .u32 (x : Int), .int .u32 (y : Int), .int .u32 (c : Int)] w fun e w' => e = .returned (.tuple #[.int .u32 (((c + (y + x)) % W32 : Nat) : Int), .int .u32 (((c + (y + x)) / W32 : Nat) : Int)]) ∧ w = w':=by
 have E1:=Hd9 (show ((x : Int) + y + c) % 4294967296 = (((c + (y + x)) % W32 : Nat) : Int) by unfold W32; omega)
 have E2:=Hd9 (show ((x : Int) + y + c) / 4294967296 = (((c + (y + x)) / W32 : Nat) : Int) by unfold W32; omega)
 go_enter Tryz.func278, Tryz.ntmps278
 go_wp2
 go_ret2
 exact ⟨by rw [← E1.out, ← E2.out]; rfl, rfl⟩

theorem div32_any (hi lo d : Nat) (w : World) (h1 : hi < d) (h2 : lo < 4294967296) (h3 : d < 4294967296) :
  Calls Tryz.prog 270 #[.int .u32 (hi : Int), .int .u32 (lo : Int), .int .u32 (d : Int)] w fun e w' => e = .returned (.tuple #[.int .u32 (((lo + 4294967296 * hi) / d : Nat) : Int), .int .u32 (((lo + 4294967296 * hi) % d : Nat) : Int)]) ∧ ∃ n, w' = w.drewN n:=by
 have EO:=or_digit hi lo (by omega) h2
 have hq : (lo + 4294967296 * hi) / d < 4294967296:=by
  rw [Nat.div_lt_iff_lt_mul (by omega)]
  omega
 have hr : (lo + 4294967296 * hi) % d < d:=Nat.mod_lt _ (by omega)
 have hd0 : ((d : Int) == 0) = false:=by rw [beq_eq_false_iff_ne]; omega
 have hle : ¬ (d : Int) ≤ hi:=by omega
 have e0 : (lo : Int) + 4294967296 * hi = ((lo + 4294967296 * hi : Nat) : Int):=by omega
 have EQ:=Hd9 (show ((lo : Int) + 4294967296 * hi) / d % 4294967296 = (((lo + 4294967296 * hi) / d : Nat) : Int) by rw [e0, ← Int.natCast_ediv]; exact mod_nat hq)
 have ER:=Hd9 (show ((lo : Int) + 4294967296 * hi) % d % 4294967296 = (((lo + 4294967296 * hi) % d : Nat) : Int) by rw [e0, ← Int.natCast_emod]; exact mod_nat (Nat.lt_trans hr h3))
 clear e0
 go_enter Tryz.func270, Tryz.ntmps270
 go_wp2_with fail
 go_quiet (fail)
 go_wp2
 go_ret2
 exact ⟨by rw [← EQ.out, ← ER.out]; rfl, _, rfl⟩
def RetSubM (w0 w : World) (g N n : Nat) (a t z l : List Nat) (m : Nat) (e : Ending) (w' : World) : Prop:=
 ∃ (cy : Nat) (s : List Nat), e = .returned (.int .u32 (cy : Int)) ∧ cy < 4294967296 ∧ MulSub t l m s n cy ∧ Own w' w0.heap.size (.slice (some ⟨g, 0, none⟩) N N) (a ++ s ++ t.drop n ++ z) ∧ w.grownBy w' (some g)

theorem subMul_any (w0 w : World) (g off N M C T n c m : Nat) (B : Option Addr) (a t z l : List Nat) (hown : Own w w0.heap.size (.slice (some ⟨g, 0, none⟩) N N) (a ++ t ++ z)) (ha : a.length = off) (ht : t.length = T) (hC : off + C = N) (hM : M ≤ C) (hn : n ≤ M) (hT : n ≤ T)
  (hb : Sl w0 B n c l) (hbel : Below w0.heap.size w0 w) (hm : m < 4294967296) (hN : N ≤ 4398046511104) :
  Calls Tryz.prog 275 #[.slice (some ⟨g, off, none⟩) M C, .slice B n c, .int .u32 (m : Int)] w (RetSubM w0 w g N n a t z l m):=by
 have HA:=Hd9 ha; clear ha
 have HT:=Hd9 ht; clear ht
 have hg:=hown.row.2
 have HG:=Hd9 hg; clear hg
 have h0 : Own w w0.heap.size (.slice (some ⟨g, 0, none⟩) N N) (a ++ [] ++ t.drop 0 ++ z):=by simpa using hown
 clear hown
 go_enter Tryz.func275, Tryz.ntmps275
 go_wp2_with fail
 go_loopw [7, 13] (fun t' i wr => ∃ (k cy : Nat) (s : List Nat), i = .int .i64 k ∧ t' = .int .u64 cy ∧ k ≤ n ∧ MulSub t l m s k cy ∧ Own wr w0.heap.size (.slice (some ⟨g, 0, none⟩) N N) (a ++ s ++ t.drop k ++ z) ∧ w.grownBy wr (some g)) (fun _ i _ => n - (intOf i).toNat)
 case atStart => exact ⟨0, 0, [], rfl, rfl, by omega, mulSub_zero t l m, h0, World.grownBy.refl w _⟩
 case round =>
  obtain ⟨k, cy, s, rfl, rfl, hk, HS, hown, hgr⟩:=hrel
  clear h0
  have hcy : cy < 4294967296:=HS.2.2.1
  rcases Nat.eq_or_lt_of_le hk with rfl | hkn
  ·go_wp2_with fail
   go_ret
   exact ⟨cy, s, rfl, hcy, HS, hown, hgr⟩
  ·have hbe:=grown_below hbel hgr HG.out
   have hfree:=hown.free (off + k)
   obtain ⟨v, hz, HV, hv⟩:=hown.cell (j:=off + k) (by omega)
   obtain ⟨b, offb, u, rfl, _, hxc, HU, hu⟩:=hb.get hbe (k:=k) hkn
   have hlt : k < t.length:=by rw [HT.out]; omega
   have hV : nth t k = v:=by rw [← HV.out, nth_row HA.out HS.1 hlt]
   obtain ⟨p, hp⟩ : ∃ p, p = u * m:=⟨_, rfl⟩
   have hpb : p ≤ 18446744065119617025:=by rw [hp]; exact mul_digits hu hm
   have hw : IntKind.u64.wrap ((u : Int) * (m : Int)) = (p : Int):=by
    rw [← Int.natCast_mul, ← hp, IntKind.wrap_u64]
    omega
   obtain ⟨lo, hlo⟩ : ∃ lo, lo = (cy + p) % 4294967296:=⟨_, rfl⟩
   obtain ⟨hi, hhi⟩ : ∃ hi, hi = (cy + p) / 4294967296:=⟨_, rfl⟩
   have hsum : cy + p = lo + 4294967296 * hi:=by omega
   have hlo2 : lo < 4294967296:=by omega
   have hhi2 : hi < 4294967295 ∨ hi = 4294967295 ∧ lo = 0:=by omega
   have E1 : ((cy : Int) + p) % 4294967296 = (lo : Int):=by omega
   have E2 : ((cy : Int) + p) / 4294967296 = (hi : Int):=by omega
   have HSUM:=Hd9 hsum
   clear hlo hhi hsum
   rcases Nat.lt_or_ge v lo with hvl | hvl
   ·have E3 : IntKind.u32.wrap ((v : Int) - lo) = ((v + 4294967296 - lo : Nat) : Int):=by rw [IntKind.wrap_u32]; omega
    have hst:=hown.store (j:=off + k) (x:=v + 4294967296 - lo) (by unfold W32; omega)
    rw [set_row _ HA.out HS.1 hlt] at hst
    have hg2:=grown_set hgr (off + k) (.int .u32 ((v + 4294967296 - lo : Nat) : Int))
    have HST:=Hd9 hst
    have HS2:=Hd9 (mulSub_step (d:=v + 4294967296 - lo) (c':=hi + 1) HS HU.out hV hp (by have:=HSUM.out; omega) (by omega) (by omega))
    clear hown hst HV hV hp hlt hgr
    have hvl2 : (v : Int) < lo:=by omega
    go_wp2_with fail
    go_roundw
    case rel => exact ⟨k + 1, hi + 1, _, by go_num, by go_num, by omega, HS2.out, HST.out, hg2⟩
    case measure => simp [intOf]; omega
   ·have E3 : IntKind.u32.wrap ((v : Int) - lo) = ((v - lo : Nat) : Int):=by rw [IntKind.wrap_u32]; omega
    have hst:=hown.store (j:=off + k) (x:=v - lo) (by unfold W32; omega)
    rw [set_row _ HA.out HS.1 hlt] at hst
    have hg2:=grown_set hgr (off + k) (.int .u32 ((v - lo : Nat) : Int))
    have HST:=Hd9 hst
    have HS2:=Hd9 (mulSub_step (d:=v - lo) (c':=hi) HS HU.out hV hp (by have:=HSUM.out; omega) (by omega) (by omega))
    clear hown hst HV hV hp hlt hgr
    have hvl2 : ¬ (v : Int) < lo:=by omega
    go_wp2_with fail
    go_roundw
    case rel => exact ⟨k + 1, hi, _, by go_num, rfl, by omega, HS2.out, HST.out, hg2⟩
    case measure => simp [intOf]; omega
def RetAddB (w0 w : World) (g N n : Nat) (a t z l : List Nat) (e : Ending) (w' : World) : Prop:=
 ∃ (cy : Nat) (s : List Nat), e = .returned (.int .u32 (cy : Int)) ∧ cy ≤ 1 ∧ MulAdd t l 1 s n cy ∧ Own w' w0.heap.size (.slice (some ⟨g, 0, none⟩) N N) (a ++ s ++ t.drop n ++ z) ∧ w.grownBy w' (some g)

theorem addBack_any (w0 w : World) (g off N M C T n c : Nat) (B : Option Addr) (a t z l : List Nat) (hown : Own w w0.heap.size (.slice (some ⟨g, 0, none⟩) N N) (a ++ t ++ z)) (ha : a.length = off) (ht : t.length = T) (hC : off + C = N) (hM : M ≤ C) (hn : n ≤ M) (hT : n ≤ T)
  (hb : Sl w0 B n c l) (hbel : Below w0.heap.size w0 w) (hN : N ≤ 4398046511104) :
  Calls Tryz.prog 276 #[.slice (some ⟨g, off, none⟩) M C, .slice B n c] w (RetAddB w0 w g N n a t z l):=by
 have HA:=Hd9 ha; clear ha
 have HT:=Hd9 ht; clear ht
 have hg:=hown.row.2
 have HG:=Hd9 hg; clear hg
 have h0 : Own w w0.heap.size (.slice (some ⟨g, 0, none⟩) N N) (a ++ [] ++ t.drop 0 ++ z):=by simpa using hown
 clear hown
 go_enter Tryz.func276, Tryz.ntmps276
 go_wp2_with fail
 go_loopw [5, 10] (fun t' i wr => ∃ (k cy : Nat) (s : List Nat), i = .int .i64 k ∧ t' = .int .u32 cy ∧ k ≤ n ∧ cy ≤ 1 ∧ MulAdd t l 1 s k cy ∧ Own wr w0.heap.size (.slice (some ⟨g, 0, none⟩) N N) (a ++ s ++ t.drop k ++ z) ∧ w.grownBy wr (some g)) (fun _ i _ => n - (intOf i).toNat)
 case atStart => exact ⟨0, 0, [], rfl, rfl, by omega, by omega, mulAdd_zero t l 1, h0, World.grownBy.refl w _⟩
 case round =>
  obtain ⟨k, cy, s, rfl, rfl, hk, hcy, HS, hown, hgr⟩:=hrel
  clear h0
  rcases Nat.eq_or_lt_of_le hk with rfl | hkn
  ·go_wp2_with fail
   go_ret
   exact ⟨cy, s, rfl, hcy, HS, hown, hgr⟩
  ·have hbe:=grown_below hbel hgr HG.out
   have hfree:=hown.free (off + k)
   obtain ⟨v, hz, HV, hv⟩:=hown.cell (j:=off + k) (by omega)
   obtain ⟨b, offb, u, rfl, _, hxc, HU, hu⟩:=hb.get hbe (k:=k) hkn
   have hlt : k < t.length:=by rw [HT.out]; omega
   have hV : nth t k = v:=by rw [← HV.out, nth_row HA.out HS.1 hlt]
   have HADD:=Hd9 (add32_any v u cy wr hv hu hcy)
   have HS2:=mulAdd_step (p:=u * 1) HS HU.out hV rfl hu hv (by omega)
   rw [Nat.mul_one] at HS2
   have hst:=hown.store (j:=off + k) (x:=(cy + (u + v)) % W32) (Nat.mod_lt _ W32_pos)
   rw [set_row _ HA.out HS.1 hlt] at hst
   have hc2 : (cy + (u + v)) / W32 ≤ 1:=by unfold W32; omega
   generalize (cy + (u + v)) % W32 = s1 at *
   generalize (cy + (u + v)) / W32 = c1 at *
   have hg2:=grown_set hgr (off + k) (.int .u32 (s1 : Int))
   have HST:=Hd9 hst
   have HS2':=Hd9 HS2
   clear hown hst HV hV hlt hgr HS2
   go_wp2_with fail
   refine HADD.out.mono ?_
   rintro e w' ⟨rfl, rfl⟩
   go_wp2_with fail
   go_roundw
   case rel => exact ⟨k + 1, c1, _, by go_num, rfl, by omega, hc2, HS2'.out, HST.out, hg2⟩
   case measure => simp [intOf]; omega

end Go.Proofs.YtiddbhhhmeopeaaGreatDoor


/- Walks: quotient.divide. -/
namespace Go.Proofs.YtiddbhhhmeopeaaGreatDoor
set_option maxHeartbeats 64000000
open Go.RowKit
set_option linter.unusedVariables false
set_option linter.unusedSimpArgs false
set_option maxRecDepth 100000
def RetDiv (w0 w : World) (g N n y : Nat) (a t z : List Nat) (e : Ending) (w' : World) : Prop:=
 ∃ (s : List Nat), e = .returned (.int .u32 ((val t / y : Nat) : Int)) ∧ s.length = n ∧ val s = val t % y ∧ Own w' w0.heap.size (.slice (some ⟨g, 0, none⟩) N N) (a ++ s ++ [0] ++ z) ∧ w.grownBy w' (some g)

theorem drop_one {t : List Nat} {n th : Nat} (ht : t.length = n + 1) (h : nth t n = th) : t.drop n = [th]:=by
 rw [List.drop_eq_getElem_cons (by omega), List.drop_eq_nil_of_le (by omega), ← h, nth_eq, List.getElem?_eq_getElem (by omega)]
 rfl

theorem divide_any (w0 w : World) (g off N C n c y : Nat) (B : Option Addr) (a t z : List Nat) (hown : Own w w0.heap.size (.slice (some ⟨g, 0, none⟩) N N) (a ++ t ++ z)) (ha : a.length = off) (ht : t.length = n + 1 + 1) (hC : off + C = N) (hM : n + 1 + 1 ≤ C)
  (hb : Sl w0 B (n + 1) c (dig y)) (hbel : Below w0.heap.size w0 w) (hN : N ≤ 4398046511104) (hlt : val t < 4294967296 * y) (hst : Small t) :
  Calls Tryz.prog 272 #[.slice (some ⟨g, off, none⟩) (n + 1 + 1) C, .slice B (n + 1) c] w (RetDiv w0 w g N (n + 1) y a t z):=by
 have hy : len y = n + 1:=hb.len
 have hg:=hown.row.2
 have hyp : 0 < y:=by
  rcases Nat.eq_zero_or_pos y with h | h
  ·subst h; omega
  ·exact h
 obtain ⟨v1, hz1, HV1, hv1⟩:=hown.cell (j:=off + (n + 1)) (by omega)
 obtain ⟨v0, hz0, HV0, hv0⟩:=hown.cell (j:=off + n) (by omega)
 obtain ⟨b, offb, dv, rfl, _, hxc, HD, hdv⟩:=hb.get hbel (k:=n) (by omega)
 have e1 : nth t (n + 1) = v1:=by
  rw [← HV1.out]
  have:=nth_row (a:=a) (s:=t.take (n + 1)) (t:=t) (z:=z) (off:=off) (i:=n + 1) ha (by rw [List.length_take]; omega) (by omega)
  rw [List.append_assoc a, List.take_append_drop] at this
  exact this.symm
 have e0 : nth t n = v0:=by
  rw [← HV0.out]
  have:=nth_row (a:=a) (s:=t.take n) (t:=t) (z:=z) (off:=off) (i:=n) ha (by rw [List.length_take]; omega) (by omega)
  rw [List.append_assoc a, List.take_append_drop] at this
  exact this.symm
 obtain ⟨hd0, hgs, hgt⟩:=guess ht hst rfl e1 e0 hy HD.out hlt
 obtain ⟨q, hq⟩ : ∃ q, q = (v0 + 4294967296 * v1) / dv:=⟨_, rfl⟩
 rw [← hq] at hgs
 have EO:=or_digit v1 v0 hv1 hv0
 have EQ : ((v0 : Int) + 4294967296 * v1) / dv = (q : Int):=by
  rw [hq, Int.natCast_ediv]
  rfl
 have hq2 : q < 18446744073709551616:=by
  rw [hq]
  exact Nat.lt_of_le_of_lt (Nat.div_le_self _ _) (by omega)
 obtain ⟨dg, hdg⟩ : ∃ dg : Nat, dg = if 4294967295 < q then 4294967295 else q:=⟨_, rfl⟩
 have EM : (if (4294967295 : Int) < (q : Int) then (4294967295 : Int) else (q : Int)) = (dg : Int):=by
  rw [hdg]
  split <;> split <;> omega
 have hdg2 : dg < 4294967296:=by
  rw [hdg]
  split <;> omega
 have hgs : val t / y ≤ dg:=by
  rw [hdg]
  split
  ·exact hgt
  ·exact hgs
 have hdz : ((dv : Int) == 0) = false:=by rw [beq_eq_false_iff_ne]; omega
 have HQ:=Hd9 hgs
 have HY:=Hd9 hy
 have HT:=Hd9 ht
 have HE1:=Hd9 e1
 have HG:=Hd9 hg
 have HYP:=Hd9 hyp
 have HA:=Hd9 ha
 have HOWN:=Hd9 hown
 have HSM:=Hd9 hst
 have hNn : n + 1 + 1 ≤ N:=by omega
 clear hdg hgs hgt hy ht e1 e0 hg hyp ha HV1 HV0 hown hlt hst hq HD
 go_enter Tryz.func272, Tryz.ntmps272
 go_wp2_with fail
 go_quiet (fail)
 go_wp2_with fail
 have HSB:=subMul_any w0 (w.drewN nq) g off N (n + 1 + 1) C (n + 1 + 1) (n + 1) c dg _ a t z (dig y) (HOWN.out.below (belowN (Below.refl _ _) nq)) HA.out HT.out hC hM (by omega) (by omega) hb (belowN hbel nq) hdg2 hN
 refine HSB.mono ?_
 clear HSB
 rintro e w1 ⟨bw, s, rfl, hbw, hs, hown1, hgr1⟩
 rw [drop_one HT.out HE1.out] at hown1
 have HS1:=divSt_start HT.out rfl HE1.out HY.out hs HQ.out
 have hgr2:=grown_trans (grown_drewN w nq (some g)) hgr1
 have HO1:=Hd9 hown1
 clear hs hown1 hgr1 HOWN EO EQ EM hz1 hz0 hxc
 go_wp2_with fail
 go_loopw [7, 8] (fun d b' wr => ∃ (dg bw : Nat) (s : List Nat), d = .int .u32 (dg : Int) ∧ b' = .int .u32 (bw : Int) ∧ dg < 4294967296 ∧ bw < 4294967296 ∧ DivSt y (n + 1) (val t) v1 dg bw s ∧ Own wr w0.heap.size (.slice (some ⟨g, 0, none⟩) N N) (a ++ s ++ [v1] ++ z) ∧ w.grownBy wr (some g)) (fun d _ _ => (intOf d).toNat)
 case atStart => exact ⟨dg, bw, s, rfl, rfl, hdg2, hbw, HS1, HO1.out, hgr2⟩
 case round =>
  clear HO1 HS1 hgr2 hbw hdg2 HQ hdz hd0 hq2
  obtain ⟨dg, bw, s, rfl, rfl, hdg, hbw, HS, hown, hgr⟩:=hrel
  have hbe:=grown_below hbel hgr HG.out
  have hsl : (a ++ s).length = off + (n + 1):=by rw [List.length_append, HA.out, HS.1]
  have hfree:=hown.free (off + (n + 1))
  obtain ⟨v, hz, HV, _⟩:=hown.cell (j:=off + (n + 1)) (by omega)
  have hv : v = v1:=by rw [← HV.out, nth_mid _ _ _ hsl]
  subst hv
  rcases Nat.lt_or_ge v bw with hlt | hle
  ·have hdp:=Nat.lt_of_le_of_lt (Nat.zero_le _) (divSt_pos HS hlt HYP.out)
   have HAB:=Hd9 (addBack_any w0 wr g off N (n + 1 + 1) C (n + 1) (n + 1) c _ a s ([v] ++ z) (dig y) (by rw [← List.append_assoc]; exact hown) HA.out HS.1 hC hM (by omega) (by omega) hb hbe hN)
   have hll : (v : Int) < bw:=by omega
   clear hown hsl HV
   go_wp2_with fail
   refine HAB.out.mono ?_
   rintro e w3 ⟨c1, s', rfl, hc1, hs', hown3, hgr3⟩
   rw [drop_all HS.1, List.append_nil, ← List.append_assoc] at hown3
   have HS3:=Hd9 (divSt_step HS hlt HYP.out HY.out hs' hc1)
   have hgr4:=grown_trans hgr hgr3
   have HO3:=Hd9 hown3
   clear hs' hown3
   go_wp2_with fail
   go_roundw
   case rel => exact ⟨dg - 1, bw - c1, s', by go_num, by go_num, by omega, by omega, HS3.out, HO3.out, hgr4⟩
   case measure => simp [intOf]; omega
  ·obtain ⟨h1, h2, h3⟩:=divSt_end HS hle HY.out HYP.out
   have hst:=hown.store (j:=off + (n + 1)) (x:=0) (by unfold W32; omega)
   rw [set_mid _ _ _ _ hsl] at hst
   have hg2:=grown_set hgr (off + (n + 1)) (.int .u32 ((0 : Nat) : Int))
   subst h2
   have hll : ¬ (v : Int) < v:=by omega
   have HST:=Hd9 hst
   have H1:=Hd9 h1
   have H3:=Hd9 h3
   have HSL:=Hd9 HS.1
   clear hst hown HV h1 h3 HS hle
   go_wp2_with fail
   go_ret
   exact ⟨s, by rw [← H1.out]; rfl, HSL.out, H3.out, HST.out, hg2⟩

end Go.Proofs.YtiddbhhhmeopeaaGreatDoor


/- Walk: nat.Shr of a list that may end in zeros. -/
namespace Go.Proofs.YtiddbhhhmeopeaaGreatDoor
set_option maxHeartbeats 64000000
open Go.RowKit
set_option linter.unusedVariables false
set_option linter.unusedSimpArgs false
set_option maxRecDepth 100000

theorem shrL_any (x q l n c : Nat) (A : Option Addr) (t : List Nat) (w : World) (ha : Sl w A n c t) (hxt : x = val t) (hn40 : n ≤ 1099511627776) (hl : l < 32) (hn : 32 * q + l ≤ 9223372036854775807) :
  Calls Tryz.prog 242 #[.slice A n c, .int .i64 ((32 * q + l : Nat) : Int)] w (RetN w (x / 2 ^ (32 * q + l))):=by
 have HLX:=Hd9 (show len x ≤ n by rw [hxt, ← ha.len]; exact len_val_le ha.small)
 have HNT:=Hd9 (fun i => show nth (dig x) i = nth t i by rw [hxt]; exact nth_trim i ha.small)
 clear hxt
 obtain ⟨k, hk⟩ : ∃ k : Nat, k = 32 * q + l:=⟨_, rfl⟩
 have h1 : (k : Int) / 32 = (q : Int):=by omega
 have h2 : (k : Int) % 32 = (l : Int):=by omega
 rw [← hk] at hn ⊢
 have HK:=Hd9 hk; clear hk
 obtain ⟨g, hg⟩ : ∃ g, g = w.heap.size:=⟨_, rfl⟩
 have HG:=Hd9 hg; clear hg
 have hdn : (decide ((k : Int) < 0)) = false:=by simp
 rcases Nat.lt_or_ge q n with hqn | hqn
 ·have hcap:=ha.cap
  have hcq : ¬ c = q:=by omega
  obtain ⟨b, off, rfl, hb, hpl⟩:=ha.place (by omega)
  have HPL:=Hd9 hpl; clear hpl
  go_enter Tryz.func242, Tryz.ntmps242
  go_wp2_with (at_make; refine wp_mk _ rfl _ _ rfl w.heap.size _ _ (n - q) rfl rfl (by omega) (by omega) (by omega) (Nat.le_refl _) ?_)
  intro w1 o1 g1
  rw [← HG.out] at o1 ⊢
  have b1 : Below w.heap.size w w1:=(Below.refl _ _).grown g1 (Nat.le_refl _) (fun k h => by cases h)
  clear g1
  go_wp2_with fail
  go_loopw [33] (fun i wr => ∃ (j : Nat) (s : List Nat), i = .int .i64 j ∧ j ≤ n - q ∧ DigsIs (x / 2 ^ (32 * q + l)) s j ∧ Own wr g (.slice (some ⟨g, 0, none⟩) (n - q) (n - q)) (s ++ List.replicate (n - q - j) 0) ∧ Below w.heap.size w wr) (fun i _ => n - q - (intOf i).toNat)
  case atStart => exact ⟨0, [], rfl, by omega, digsIs_zero _, o1, b1⟩
  case round =>
   obtain ⟨j, s, rfl, hj, HS, hown, hbel⟩:=hrel
   clear o1 b1
   rcases Nat.eq_or_lt_of_le hj with hje | hjn
   ·rw [hje, Nat.sub_self, List.replicate_zero, List.append_nil] at hown
    have H:=length_any _ _ _ _ _ hown.sl
    have HT:=Hd9 (digsIs_end HS (by rw [hje]; exact shr_small HLX.out (by omega)))
    rw [HT.out] at H
    have hdl : (dig (x / 2 ^ (32 * q + l))).length ≤ n - q:=by
     rw [← HT.out]
     have:=length_trim_le s
     rw [HS.1] at this
     omega
    have hcut:=hown.cut hdl
    rw [show s.take (dig (x / 2 ^ (32 * q + l))).length = dig (x / 2 ^ (32 * q + l)) by rw [← HT.out, trim_take], ← HK.out] at hcut
    rw [← HK.out] at hdl H
    obtain ⟨kk, hkk⟩ : ∃ kk, kk = (dig (x / 2 ^ k)).length:=⟨_, rfl⟩
    rw [← hkk] at hdl H
    have HKK:=Hd9 hkk; clear hkk
    have HL2:=Hd9 H; clear H
    have HHcut:=Hd9 hcut; clear hcut
    have hjj : n - q ≤ j:=by omega
    clear hown hje
    go_wp2_with (go_at_call 234; refine HL2.out.mono ?_; rintro e w' ⟨rfl, rfl⟩)
    go_ret
    refine ⟨_, rfl, ?_, hbel⟩
    have:=HHcut.out
    rw [← HKK.out] at this
    exact this.base_le (Nat.le_of_eq HG.out.symm)
   ·obtain ⟨u, hu⟩:=nm9 (nth (dig x) (q + j))
    have hut:=HNT.out (q + j)
    have hu32 : u < 4294967296:=by rw [← hu]; exact (small_dig x).get _
    have hxc : wr.cell? ⟨b, off + q + j, none⟩ = some (.int .u32 (u : Nat)):=by
     have:=(hbel.cell (p:=⟨b, off + (q + j), none⟩) hb).trans (HPL.out (q + j) (by omega))
     rwa [← hut, hu, ← Nat.add_assoc] at this
    have HU:=Hd9 hu; clear hu hut
    have hf1:=hown.free j
    obtain ⟨z, hz, HZ, _⟩:=hown.cell (j:=j) (by omega)
    rw [show n - q - j = (n - q - (j + 1)) + 1 from by omega] at hown
    rcases Nat.lt_or_ge (q + j + 1) n with hv | hv
    ·obtain ⟨v, hve⟩:=nm9 (nth (dig x) (q + j + 1))
     have hvt:=HNT.out (q + j + 1)
     have hv32 : v < 4294967296:=by rw [← hve]; exact (small_dig x).get _
     have hyc : wr.cell? ⟨b, off + (q + j + 1), none⟩ = some (.int .u32 (v : Nat)):=by
      have:=(hbel.cell (p:=⟨b, off + (q + j + 1), none⟩) hb).trans (HPL.out (q + j + 1) hv)
      rwa [← hvt, hve] at this
     have hd:=shr_digit (l:=l) (by omega) HU.out hve
     have hst:=hown.store (j:=j) (x:=(u + W32 * v) / 2 ^ l % W32) (Nat.mod_lt _ W32_pos)
     have E : (((u + W32 * v) / 2 ^ l % W32 : Nat) : Int) = bits .or .u64 (u : Int) ((v : Int) * 4294967296) / 2 ^ l % 4294967296:=by
      rw [or_digit' v u hv32 hu32, Int.natCast_emod, Int.natCast_ediv, Int.natCast_pow]; rfl
     rw [set_end s (n - q - (j + 1)) _ HS.1, E] at hst
     have hb2:=hbel.setCell (p:=⟨g, j, none⟩) (by rw [HG.out]; exact Nat.le_refl _) (.int .u32 (bits .or .u64 (u : Int) ((v : Int) * 4294967296) / 2 ^ l % 4294967296))
     have HST:=Hd9 hst
     have HD:=Hd9 hd
     clear hown hst E hve hd hvt
     go_wp2_with fail
     go_roundw
     case rel => exact ⟨j + 1, _, by go_num, by omega, digsIs_step HS HD.out, HST.out, hb2⟩
     case measure => simp [intOf]; omega
    ·have hve : nth (dig x) (q + j + 1) = 0:=nth_of_ge (by rw [length_dig]; exact Nat.le_trans HLX.out hv)
     have hd:=shr_digit (l:=l) (by omega) HU.out hve
     rw [Nat.mul_zero, Nat.add_zero] at hd
     have hst:=hown.store (j:=j) (x:=u / 2 ^ l % W32) (Nat.mod_lt _ W32_pos)
     have E : ((u / 2 ^ l % W32 : Nat) : Int) = (u : Int) / 2 ^ l % 4294967296:=by
      rw [Int.natCast_emod, Int.natCast_ediv, Int.natCast_pow]; rfl
     rw [set_end s (n - q - (j + 1)) _ HS.1, E] at hst
     have hb2:=hbel.setCell (p:=⟨g, j, none⟩) (by rw [HG.out]; exact Nat.le_refl _) (.int .u32 ((u : Int) / 2 ^ l % 4294967296))
     have HST:=Hd9 hst
     have HD:=Hd9 hd
     clear hown hst E hve hd
     go_wp2_with fail
     go_roundw
     case rel => exact ⟨j + 1, _, by go_num, by omega, digsIs_step HS HD.out, HST.out, hb2⟩
     case measure => simp [intOf]; omega
 ·have hz:=shr_zero (l:=l) HLX.out hqn
  rw [← HK.out] at hz
  rw [hz]
  clear hz
  go_enter Tryz.func242, Tryz.ntmps242
  go_wp2_with fail
  go_ret
  exact ⟨_, rfl, by rw [dig_zero]; exact Own.nil _ _, Below.refl _ _⟩

end Go.Proofs.YtiddbhhhmeopeaaGreatDoor

