/- Walk: nat.Bits. -/
import Derived.Test.YtajegednakenbaaDoorNatA
import Derived.Test.YtajegednakenbaaDoorLen32
namespace Go.Proofs.YtajegednakenbaaDoor
open Go.RowKit
set_option linter.unusedVariables false
set_option linter.unusedSimpArgs false

set_option maxHeartbeats 400000 in
theorem nbits_any (x : Nat) (va : Value) (w : World) (ha : IsN w va x) (hx : len x ≤ 1099511627776) :
    Calls Tryd.prog 52 #[va] w fun e w' => e = .returned (.int .i64 (blen x : Nat)) ∧ w = w' := by
  obtain ⟨A, n, c, rfl, ha⟩ := ha
  have HC := length_any _ A n c w ha
  rw [trim_dig, ha.len] at HC
  have HL := Lib.hid HC; clear HC
  have hlx : len x = n := ha.len
  rcases Nat.eq_zero_or_pos n with h0 | h0
  · have hz : x = 0 := len_eq_zero (by rw [hlx]; exact h0)
    subst h0; subst hz
    clear hlx
    rw [blen_zero]
    go_enter Tryd.func52, Tryd.ntmps52
    go_wp2_with (go_at_call 66; refine HL.out.mono ?_; rintro e w' ⟨rfl, rfl⟩)
    go_ret
    exact ⟨rfl, rfl⟩
  · obtain ⟨m, rfl⟩ : ∃ m, n = m + 1 := ⟨n - 1, by omega⟩
    obtain ⟨b, off, u, rfl, _, hc, HU, hu⟩ := ha.get (Below.refl _ _) (k := m) (by omega)
    have hup : 0 < u := by
      rcases Nat.eq_zero_or_pos u with h1 | h1
      · exfalso
        have := trim_short (small_dig x) ha.len (by rw [HU.out]; exact h1)
        rw [trim_dig, ha.len] at this
        omega
      · exact h1
    have hb : blen x = 32 * m + blen u := by
      have e := val_take_succ (dig x) m
      rw [List.take_of_length_le (Nat.le_of_eq ha.len), val_dig, HU.out] at e
      have hlo := val_take_lt (dig x) (small_dig x) m
      rw [W32_pow] at e hlo
      have := blen_high hlo hup
      rwa [← e] at this
    have hu5 : blen u ≤ 32 := blen_le hu
    have HB := Lib.hid hb
    have H2 := Lib.hid (len32_any u w hu)
    have hnz : ((m : Int) + 1 == 0) = false := by rw [beq_eq_false_iff_ne]; omega
    have hm40 : m ≤ 1099511627776 := by omega
    clear hb hlx hup
    generalize blen u = bu at *
    go_enter Tryd.func52, Tryd.ntmps52
    go_wp2_with fail
    refine HL.out.mono ?_; rintro e w' ⟨rfl, rfl⟩
    go_wp2_with fail
    refine H2.out.mono ?_; rintro e w' ⟨rfl, rfl⟩
    go_wp2_with fail
    go_ret
    exact ⟨by rw [HB.out]; exact congrArg (fun i => Ending.returned (Value.int .i64 i)) (by omega), rfl⟩

end Go.Proofs.YtajegednakenbaaDoor
