/- Walks: the mill's Nat and Mod. -/
import Derived.Test.YtajegednakenbaaDoorRefA
namespace Go.Proofs.YtajegednakenbaaDoor
open Go.RowKit
set_option linter.unusedVariables false
set_option linter.unusedSimpArgs false

/-- A list that is short enough, as a natural, and true; or nothing and false. -/
def RetMillNat (w : World) (l : List Nat) (m : Nat) (e : Ending) (w' : World) : Prop :=
  (l.length ≤ m ∧ ∃ v, e = .returned (.tuple #[v, .bool true]) ∧ Out w w' v (trim l)) ∨ (m < l.length ∧ e = .returned (.tuple #[.slice none 0 0, .bool false]) ∧ w = w')
theorem tmod_neg {v n : Int} (h : v < 0) : v.tmod n = -((-v) % n) := by
  rw [← Int.tmod_eq_emod_of_nonneg (show 0 ≤ -v by omega), Int.neg_tmod, Int.neg_neg]
theorem emod_neg {v n : Int} (hn : 1 ≤ n) : v % n = if (-v) % n = 0 then 0 else n - (-v) % n := by
  have h1 := Int.mul_ediv_add_emod (-v) n
  have h2 := Int.emod_nonneg (-v) (show n ≠ 0 by omega)
  have h3 := Int.emod_lt_of_pos (-v) (show 0 < n by omega)
  generalize (-v) % n = r at *
  generalize (-v) / n = q at *
  split
  · rename_i hr
    have e : v = n * (-q) := by rw [Int.mul_neg]; omega
    rw [e, Int.mul_emod_right]
  · have e : v = (n - r) + n * (-q - 1) := by rw [Int.mul_sub, Int.mul_neg, Int.mul_one]; omega
    rw [e, Int.add_mul_emod_self_left, Int.emod_eq_of_lt (by omega) (by omega)]

/-- The remainder, from 0 on. -/
theorem mod_any (v n : Int) (w : World) (hn : 1 ≤ n) (hn2 : n ≤ 1000000000) (h1 : -9223372036854775808 ≤ v) (h2 : v ≤ 9223372036854775807) :
    Calls Tryd.prog 35 #[.int .i64 v, .int .i64 n] w fun e w' => e = .returned (.int .i64 (v % n)) ∧ w = w' := by
  have hz : (n == 0) = false := by rw [beq_eq_false_iff_ne]; omega
  have hlo := Int.emod_nonneg v (show n ≠ 0 by omega)
  have hhi := Int.emod_lt_of_pos v (show 0 < n by omega)
  rcases Int.lt_or_le v 0 with h0 | h0
  · have e1 := tmod_neg (n := n) h0
    have e2 := emod_neg (v := v) hn
    have h3 := Int.emod_nonneg (-v) (show n ≠ 0 by omega)
    have h4 := Int.emod_lt_of_pos (-v) (show 0 < n by omega)
    rw [e2]
    by_cases hr : (-v) % n = 0
    · rw [if_pos hr]
      rw [hr] at e1
      have e1' : v.tmod n = 0 := e1
      clear e2 h3 h4 hr e1 hlo hhi
      go_enter Tryd.func35, Tryd.ntmps35
      go_wp2_with fail
      go_ret
      exact ⟨rfl, rfl⟩
    · rw [if_neg hr]
      generalize (-v) % n = r at *
      have hneg : v.tmod n < 0 := by omega
      have hlow : -1000000000 ≤ v.tmod n := by omega
      have E := Lib.hid e1
      clear e2 hr e1 hlo hhi
      go_enter Tryd.func35, Tryd.ntmps35
      go_wp2_with fail
      go_ret
      exact ⟨congrArg (fun i => Ending.returned (Value.int .i64 i)) (by rw [E.out]; omega), rfl⟩
  · go_enter Tryd.func35, Tryd.ntmps35
    go_wp2_with fail
    go_ret
    exact ⟨rfl, rfl⟩

end Go.Proofs.YtajegednakenbaaDoor
