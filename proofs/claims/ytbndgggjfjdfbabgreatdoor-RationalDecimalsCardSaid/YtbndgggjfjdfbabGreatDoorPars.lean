/- strings.CutPrefix of a sign; decimal.Parse and Format. -/
import Derived.Test.YtbndgggjfjdfbabGreatDoorNatu
import Derived.Test.YtbndgggjfjdfbabGreatDoorDigA
import Derived.Test.YtbndgggjfjdfbabGreatDoorBaseI
import Derived.Test.YtbndgggjfjdfbabGreatDoorBaseJ
namespace Go.Proofs.YtbndgggjfjdfbabGreatDoor
open Go.RowKit
set_option linter.unusedVariables false
set_option linter.unusedSimpArgs false
set_option maxRecDepth 100000
attribute [local go_sem ↓] Go.wp_at_zero Go.wp_at_succ

theorem first_is {l : List Nat} (hb : Byt l) : (((str l).extract 0 1).toList == [45]) = sgn l := by
  have e1 : ([45] : List UInt8) = (str [45]).toList := by rw [str_toList]; rfl
  rw [str_extract, e1, str_eql (byt_take (byt_drop hb 0) _) (byt_one (by omega)), Bool.eq_iff_iff, decide_eq_true_iff]
  unfold sgn
  rw [decide_eq_true_iff]
  cases l with
  | nil => constructor <;> intro h <;> revert h <;> decide
  | cons a t =>
    have e2 : nth (a :: t) 0 = a := by rw [nth_eq]; rfl
    rw [e2]
    simp
theorem sgn_nil {l : List Nat} (h : l.length = 0) : sgn l = false := by
  rw [List.eq_nil_of_length_eq_zero h]; rfl
theorem bod_yes {l : List Nat} (h : sgn l = true) : bod l = l.drop 1 := by
  unfold sgn at h; unfold bod; rw [decide_eq_true_iff] at h; rw [if_pos h]
theorem bod_no {l : List Nat} (h : sgn l = false) : bod l = l := by
  unfold sgn at h; unfold bod; rw [decide_eq_false_iff_not] at h; rw [if_neg h]
theorem bod_length (l : List Nat) : (bod l).length ≤ l.length := by
  unfold bod; split
  · rw [List.length_drop]; omega
  · exact Nat.le_refl _
theorem bod_byt {l : List Nat} (h : Byt l) : Byt (bod l) := by
  unfold bod; split
  · exact byt_drop h 1
  · exact h

theorem hasPrefix_any (l : List Nat) (w : World) (hb : Byt l) (hl : l.length ≤ 1000000) :
    Calls Tryz.prog 136 #[.string (str l), .string ⟨#[45]⟩] w fun e w' => e = .returned (.bool (sgn l)) ∧ w = w' := by
  have hsz := str_size l
  have hq := first_is hb
  rcases Nat.eq_zero_or_pos l.length with h0 | h0
  · rw [sgn_nil h0] at hq ⊢
    rw [h0] at hsz
    clear h0 hl
    go_enter Tryz.func136, Tryz.ntmps136
    go_wp2
    go_ret
    exact ⟨rfl, rfl⟩
  · obtain ⟨n, hn⟩ : ∃ n, l.length = n + 1 := ⟨l.length - 1, by omega⟩
    rw [hn] at hsz
    have h63 : n ≤ 1000000 := by omega
    generalize sgn l = S at *
    clear hn h0 hl
    go_enter Tryz.func136, Tryz.ntmps136
    go_wp2
    go_ret
    exact ⟨rfl, rfl⟩

/-- An integer and an error. -/
def RetZE (w : World) (z : Int) (er : Int) (e : Ending) (w' : World) : Prop := ∃ v, e = .returned (.tuple #[v, .int .i64 er]) ∧ IsZ w' v z ∧ Below w.heap.size w w'
theorem errP_long {l : List Nat} (h : 20001 < l.length) : errP l = 7 ∧ valP l = 0 := by unfold errP valP; rw [if_pos h, if_pos h]; exact ⟨rfl, rfl⟩
theorem errP_bad {l : List Nat} (h : l.length ≤ 20001) (hg : okP l = false) : errP l = 6 ∧ valP l = 0 := by unfold errP valP; rw [if_neg (by omega : ¬ 20001 < l.length), if_neg (by omega : ¬ 20001 < l.length), hg]; exact ⟨rfl, rfl⟩
theorem errP_good {l : List Nat} (h : l.length ≤ 20001) (hg : okP l = true) : errP l = 0 ∧ valP l = sg (sgn l) (num (bod l)) := by unfold errP valP; rw [if_neg (by omega : ¬ 20001 < l.length), if_neg (by omega : ¬ 20001 < l.length), hg]; exact ⟨rfl, rfl⟩
theorem okP_good {l : List Nat} (h : good (bod l) = false) : okP l = false := by unfold okP; rw [h]; rfl
theorem okP_zero {l : List Nat} (h : sgn l = true) (h2 : num (bod l) = 0) : okP l = false := by unfold okP; rw [h, decide_eq_true h2]; exact Bool.and_false _
theorem okP_pos {l : List Nat} (h : good (bod l) = true) (h2 : num (bod l) ≠ 0) : okP l = true := by unfold okP; rw [h, decide_eq_false h2, Bool.and_false]; rfl
theorem okP_nn {l : List Nat} (h : good (bod l) = true) (h2 : sgn l = false) : okP l = true := by unfold okP; rw [h, h2]; rfl

end Go.Proofs.YtbndgggjfjdfbabGreatDoor
