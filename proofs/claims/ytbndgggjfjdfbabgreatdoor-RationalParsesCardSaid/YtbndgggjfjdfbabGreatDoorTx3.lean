/- The program's join, Decimal and Parse of fractions. -/
import Derived.Test.YtbndgggjfjdfbabGreatDoorTx2
import Derived.Test.YtbndgggjfjdfbabGreatDoorRatP
import Derived.Test.YtbndgggjfjdfbabGreatDoorDigA
namespace Go.Proofs.YtbndgggjfjdfbabGreatDoor
open Go.RowKit
set_option linter.unusedVariables false
set_option linter.unusedSimpArgs false
set_option maxRecDepth 100000
attribute [local go_sem ↓] Go.wp_at_zero Go.wp_at_succ

theorem zdrop_cat (k : Nat) {c : List Nat} (h : c = [] ∨ nth c 0 ≠ 48) : zdrop (zs48 k ++ c) = c := by
  induction k with
  | zero =>
    show zdrop c = c
    cases c with
    | nil => rfl
    | cons x t =>
      have hx : x ≠ 48 := by
        rcases h with h | h
        · cases h
        · rw [nth_eq] at h; exact h
      unfold zdrop
      rw [List.dropWhile_cons, if_neg (by simpa using hx)]
  | succ k ih =>
    show zdrop (48 :: (zs48 k ++ c)) = c
    unfold zdrop at *
    rw [List.dropWhile_cons, if_pos (by simp)]
    exact ih
/-- The digits on both sides of a point, the zeros in front off. -/
theorem join_math {a b : List Nat} (ha : good a = true) (hb : b ≠ []) (hl : nth b (b.length - 1) ≠ 48) : good (zdrop (a ++ b)) = b.all isD ∧ num (zdrop (a ++ b)) = num (a ++ b) ∧ (zdrop (a ++ b)).length ≤ (a ++ b).length := by
  obtain ⟨k, c, e, hc⟩ := strip48 (a ++ b)
  have hz : zdrop (a ++ b) = c := by rw [e]; exact zdrop_cat k hc
  rw [hz]
  have hbp : 0 < b.length := List.length_pos_iff.2 hb
  have hlast : nth (a ++ b) ((a ++ b).length - 1) = nth b (b.length - 1) := by
    rw [nth_eq, nth_eq, List.getElem?_append_right (by rw [List.length_append]; omega), List.length_append, show a.length + b.length - 1 - a.length = b.length - 1 by omega]
  have hcn : c ≠ [] := fun e2 => by
    subst e2
    rw [List.append_nil] at e
    have : nth (zs48 k) ((zs48 k).length - 1) ≠ 48 := by rw [← e, hlast]; exact hl
    have hk : 0 < (zs48 k).length := by rw [← e, List.length_append]; omega
    apply this
    unfold zs48 at *
    rw [List.length_replicate] at hk ⊢
    rw [nth_eq, List.getElem?_replicate, if_pos (by omega)]
    rfl
  have hc1 := hc.elim (fun e => absurd e hcn) id
  refine ⟨?_, by rw [e, num_append, num_zs, Nat.zero_mul, Nat.zero_add], by rw [e, List.length_append]; omega⟩
  have hall : (a ++ b).all isD = c.all isD := by rw [e, List.all_append, all_zs, Bool.true_and]
  have hg : good c = c.all isD := by
    have h48 : c ≠ [48] := fun e2 => by rw [e2] at hc1; exact hc1 rfl
    unfold good
    rw [decide_eq_false h48, decide_eq_true hcn, decide_eq_true hc1, Bool.false_or, Bool.true_and, Bool.true_and]
  rw [hg, ← hall, List.all_append, good_all ha, Bool.true_and]
theorem errN_of {l : List Nat} (h : l.length ≤ 20001) : errN l = (if good l then 0 else 6) ∧ valN l = (if good l then num l else 0) := by
  unfold errN valN
  rw [if_neg (show ¬ 20001 < l.length by omega), if_neg (show ¬ 20001 < l.length by omega)]
  exact ⟨rfl, rfl⟩
set_option maxHeartbeats 1000000 in
theorem join_any (a b : List Nat) (w : World) (hb1 : Byt a) (hb2 : Byt b) (hl : (a ++ b).length ≤ 400) (ha : good a = true) :
    Calls Tryz.prog 60 #[.string (str a), .string (str b)] w (RetNE w (if okF b then num (a ++ b) else 0) (if okF b then 0 else 6)) := by
  have hq1 : ((str b).toList == []) = decide (b = []) := by rw [← str_eql hb2 byt_nil, str_toList []]; rfl
  have hs1 := str_size a
  have hs2 := str_size b
  have hcat := str_append a b
  have hlen := hl
  rw [List.length_append] at hlen
  obtain ⟨n, hn⟩ : ∃ n, a.length = n := ⟨_, rfl⟩
  obtain ⟨m, hm⟩ : ∃ m, b.length = m := ⟨_, rfl⟩
  rw [hn] at hs1 hlen
  rw [hm] at hs2 hlen
  have b1 : ¬ 9223372036854775807 < n + m := by omega
  by_cases hnil : b = []
  · have hF : okF b = false := by unfold okF; rw [decide_eq_false (by simpa using hnil)]; rfl
    rw [hF, if_neg (by simp), if_neg (by simp)]
    rw [decide_eq_true hnil] at hq1
    clear hcat
    generalize str a = sa at *
    generalize str b = sb at *
    go_enter Tryz.func60, Tryz.ntmps60
    go_wp2_with fail
    go_ret2
    exact ⟨_, rfl, IsN.zero _, Below.refl _ _⟩
  · rw [decide_eq_false hnil] at hq1
    have HS := Lib.hid (fun W => suffix_any b W hb2 hnil (by omega))
    by_cases h48 : nth b (b.length - 1) = 48
    · have hF : okF b = false := by unfold okF; rw [decide_eq_false (show ¬ nth b (b.length - 1) ≠ 48 from fun e => e h48)]; simp
      rw [hF, if_neg (by simp), if_neg (by simp)]
      rw [decide_eq_true h48] at HS
      clear hcat h48
      generalize str a = sa at *
      generalize str b = sb at *
      go_enter Tryz.func60, Tryz.ntmps60
      go_wp2_with fail
      refine (HS.out _).mono ?_
      rintro e w' ⟨rfl, rfl⟩
      go_wp2_with fail
      go_ret2
      exact ⟨_, rfl, IsN.zero _, Below.refl _ _⟩
    · rw [decide_eq_false h48] at HS
      obtain ⟨j1, j2, j3⟩ := join_math ha hnil h48
      have hF : okF b = b.all isD := by unfold okF; rw [decide_eq_true hnil, decide_eq_true h48, Bool.true_and, Bool.true_and]
      obtain ⟨e1, e2⟩ := errN_of (l := zdrop (a ++ b)) (by omega)
      rw [j1, ← hF, j2] at e2
      rw [j1, ← hF] at e1
      have hbz : Byt (zdrop (a ++ b)) := fun x hx => byt_append hb1 hb2 x (List.dropWhile_sublist _ |>.subset hx)
      have HT := Lib.hid (fun W => trimLeft_any (a ++ b) W (byt_append hb1 hb2))
      have hN := fun W => natural_any (zdrop (a ++ b)) W hbz (by omega)
      rw [e1, e2] at hN
      have HN := Lib.hid hN
      clear hN e1 e2 j1 j2 j3 h48 hF
      generalize (if okF b then num (a ++ b) else 0) = X at *
      generalize (if okF b then (0 : Int) else 6) = E at *
      generalize str (zdrop (a ++ b)) = z at *
      generalize str (a ++ b) = sab at *
      generalize str a = sa at *
      generalize str b = sb at *
      go_enter Tryz.func60, Tryz.ntmps60
      go_wp2_with fail
      refine (HS.out _).mono ?_
      rintro e w' ⟨rfl, rfl⟩
      go_wp2_with fail
      refine (HT.out _).mono ?_
      rintro e w' ⟨rfl, rfl⟩
      go_wp2_with fail
      refine (HN.out _).mono ?_
      rintro e w' ⟨v, rfl, iv, be⟩
      go_wp2_with fail
      go_ret2
      exact ⟨_, rfl, iv, be⟩

/-- A text, and whether it is one. -/
def RetSB (w : World) (l : List Nat) (b : Bool) (e : Ending) (w' : World) : Prop := e = .returned (.tuple #[.string (str l), .bool b]) ∧ Below w.heap.size w w'
theorem tz_25 (u f : Nat) : tz (2 ^ u * 5 ^ f) = u := by
  have h1 : 5 ^ f % 2 = 1 := by rw [Nat.pow_mod]; simp
  have e : 5 ^ f = 2 * (5 ^ f / 2) + 1 := by omega
  rw [e]
  exact tz_mul _ _
theorem tz_le (x : Nat) (h : 0 < x) : tz x ≤ 32 * len x := by
  obtain ⟨m, hm⟩ := tz_form h
  have h1 : x < W32 ^ len x := len_le_iff.1 (Nat.le_refl _)
  have h2 : 2 ^ tz x ≤ x := by
    have : 2 ^ tz x * 1 ≤ 2 ^ tz x * (2 * m + 1) := Nat.mul_le_mul_left _ (by omega)
    omega
  have h3 : W32 ^ len x = 2 ^ (32 * len x) := by
    unfold W32
    rw [show 4294967296 = 2 ^ 32 from by decide, ← Nat.pow_mul]
  rw [h3] at h1
  exact Nat.le_of_lt ((Nat.pow_lt_pow_iff_right (a := 2) (by omega)).1 (Nat.lt_of_le_of_lt h2 h1))
theorem ten_len {m : Nat} (h : m ≤ 2000) : len (10 ^ m) ≤ 2001 := by
  have h1 := len_pow 10 m
  have h2 : len 10 ≤ 1 := len_le1 (by omega)
  have h3 : m * len 10 ≤ 2000 * 1 := Nat.mul_le_mul h h2
  omega
end Go.Proofs.YtbndgggjfjdfbabGreatDoor
