/- The texts of dyadics: the parts at the first letter p; what Parse returns. -/
import Derived.Test.YtpgiolbnmlbjbaaGreatDoorDyA
import Derived.Test.YtpgiolbnmlbjbaaGreatDoorPars
import Derived.Test.YtpgiolbnmlbjbaaGreatDoorBaseI
namespace Go.Proofs.YtpgiolbnmlbjbaaGreatDoor
open Go.RowKit
set_option linter.unusedVariables false
set_option linter.unusedSimpArgs false
set_option maxRecDepth 100000

def hd8 (l : List Nat) : List Nat := l.takeWhile (fun c => decide (c ≠ 112))
def tl8 (l : List Nat) : List Nat := (l.dropWhile (fun c => decide (c ≠ 112))).drop 1
/-- Whether a mantissa and an exponent are a valid dyadic. -/
def vd8 (m e : Int) : Bool := if m = 0 then decide (e = 0) else fits8 m e
def okD8 (a b : List Nat) : Bool := decide (errP a = 0) && (decide (errP b = 0) && (zb (valP b) && vd8 (valP a) (zi (valP b))))
def ok8 (l : List Nat) : Bool := decide (112 ∈ l) && okD8 (hd8 l) (tl8 l)
def errD8 (l : List Nat) : Int := if 20010 < l.length then 7 else if ok8 l then 0 else 6
def valM8 (l : List Nat) : Int := if errD8 l = 0 then valP (hd8 l) else 0
def valE8 (l : List Nat) : Int := if errD8 l = 0 then zi (valP (tl8 l)) else 0
theorem hd8_cut {a b : List Nat} (h : 112 ∉ a) : hd8 (a ++ 112 :: b) = a := by
  unfold hd8
  induction a with
  | nil => rfl
  | cons c t ih => rw [List.cons_append, List.takeWhile_cons, if_pos (show decide (c ≠ 112) = true from decide_eq_true (fun e : c = 112 => h (by rw [e]; exact List.mem_cons_self ..))), ih (fun e => h (List.mem_cons_of_mem _ e))]
theorem tl8_cut {a b : List Nat} (h : 112 ∉ a) : tl8 (a ++ 112 :: b) = b := by
  unfold tl8
  induction a with
  | nil => rfl
  | cons c t ih =>
    rw [List.cons_append, List.dropWhile_cons, if_pos (show decide (c ≠ 112) = true from decide_eq_true (fun e : c = 112 => h (by rw [e]; exact List.mem_cons_self ..)))]
    exact ih (fun e => h (List.mem_cons_of_mem _ e))
theorem cut8 (l : List Nat) (h : 112 ∈ l) : ∃ a b, l = a ++ 112 :: b ∧ 112 ∉ a := by
  induction l with
  | nil => cases h
  | cons c t ih =>
    by_cases hc : c = 112
    · exact ⟨[], t, by rw [hc]; rfl, by simp⟩
    · obtain ⟨a, b, e, h2⟩ := ih (by rcases List.mem_cons.1 h with h | h; exact absurd h.symm hc; exact h)
      exact ⟨c :: a, b, by rw [e]; rfl, fun h3 => by rcases List.mem_cons.1 h3 with h3 | h3; exact hc h3.symm; exact h2 h3⟩
theorem err8_long {l : List Nat} (h : 20010 < l.length) : errD8 l = 7 ∧ valM8 l = 0 ∧ valE8 l = 0 := by
  have e : errD8 l = 7 := if_pos h
  unfold valM8 valE8
  rw [e]
  exact ⟨rfl, rfl, rfl⟩
theorem err8_bad {l : List Nat} (h : ¬ 20010 < l.length) (h2 : ok8 l = false) : errD8 l = 6 ∧ valM8 l = 0 ∧ valE8 l = 0 := by
  have e : errD8 l = 6 := by unfold errD8; rw [if_neg h, h2]; rfl
  unfold valM8 valE8
  rw [e]
  exact ⟨rfl, rfl, rfl⟩
theorem err8_good {l : List Nat} (h : ¬ 20010 < l.length) (h2 : ok8 l = true) : errD8 l = 0 ∧ valM8 l = valP (hd8 l) ∧ valE8 l = zi (valP (tl8 l)) := by
  have e : errD8 l = 0 := by unfold errD8; rw [if_neg h, h2]; rfl
  unfold valM8 valE8
  rw [e]
  exact ⟨rfl, rfl, rfl⟩
theorem zl_parse8 {l : List Nat} {n : Nat} (h : l.length ≤ n) : zl (valP l) ≤ n := by
  unfold valP
  split
  · rw [zl_zero]; omega
  · split
    · next h2 =>
      have hg : good (bod l) = true := by
        unfold okP at h2
        rw [Bool.and_eq_true] at h2
        exact h2.1
      have e : sgz (sgn l) (num (bod l)) = sg (sgn l) (num (bod l)) := rfl
      rw [e, zl_sg]
      have := bod_length l
      exact Nat.le_trans (len_num (num_lt (good_all hg))) (by omega)
    · rw [zl_zero]; omega

end Go.Proofs.YtpgiolbnmlbjbaaGreatDoor
