/- Walks: nat.Low, Bit, Zeros. -/
import Derived.Test.YtajegednakenbaaDoorNatF
import Derived.Test.YtajegednakenbaaDoorBits
import Derived.Test.YtajegednakenbaaDoorNBits
import Derived.RegionTactic
import Derived.ChangeAlike
namespace Go.Proofs.YtajegednakenbaaDoor
open Go.RowKit
set_option linter.unusedVariables false
set_option linter.unusedSimpArgs false

def ZerosTo (x j : Nat) : Prop := ∀ i, i < j → nth (dig x) i = 0

theorem nzeros_any (x : Nat) (va : Value) (w : World) (ha : IsN w va x) (hx : len x ≤ 1099511627776) (hT : Tab w) :
    Calls Tryd.prog 63 #[va] w fun e w' => e = .returned (.int .i64 (tz x : Nat)) ∧ w = w' := by
  obtain ⟨A, n, c, rfl, ha⟩ := ha
  have hn40 : n ≤ 1099511627776 := by rw [← ha.len]; exact hx
  have HLX := Lib.hid ha.len
  have HT := Lib.hid hT; clear hT
  refine Calls.mono (R := fun e w' => ∃ i : Int, e = .returned (.int .i64 i) ∧ Hid (i = (tz x : Nat)) ∧ w = w') ?_ (by rintro e w' ⟨i, rfl, h1, h2⟩; exact ⟨by rw [h1.out], h2⟩)
  go_enter Tryd.func63, Tryd.ntmps63
  go_wp2_with fail
  go_loop [7] (fun i => ∃ j : Nat, i = .int .i64 j ∧ j ≤ n ∧ ZerosTo x j) (fun i => n - (intOf i).toNat)
  case atStart => exact ⟨0, rfl, by omega, fun i hi => by omega⟩
  case round =>
    obtain ⟨j, rfl, hj, HZ⟩ := hrel
    rcases Nat.eq_or_lt_of_le hj with rfl | hjn
    · have h0 : x = 0 := by
        rw [← val_dig x]
        exact val_zero_of_nth fun i => by
          rcases Nat.lt_or_ge i j with h | h
          · exact HZ i h
          · exact nth_of_ge (by rw [HLX.out]; exact h)
      have H0 := Lib.hid h0; clear h0
      go_wp2_with fail
      go_ret
      exact ⟨0, rfl, by rw [H0.out, tz_zero]; rfl, rfl⟩
    · obtain ⟨b, off, u, rfl, _, hc, HU, hu⟩ := ha.get (Below.refl _ _) (k := j) hjn
      by_cases hu0 : u = 0
      · subst hu0
        have hxn : ((0 : Int) != 0) = false := rfl
        go_wp2_with fail
        go_round
        case rel =>
          refine ⟨j + 1, by go_num, by omega, fun i hi => ?_⟩
          rcases Nat.lt_or_ge i j with h | h
          · exact HZ i h
          · obtain rfl : i = j := by omega
            exact HU.out
        case measure => simp [intOf] <;> omega
      · have hxn : ((u : Int) != 0) = true := by rw [bne_iff_ne]; omega
        have hxb : ((u : Int) == 0) = false := by rw [beq_eq_false_iff_ne]; omega
        have hE := tz_words HZ HU.out (Nat.pos_of_ne_zero hu0)
        have H2 := Lib.hid (tz32_any u w hu (Nat.pos_of_ne_zero hu0) HT.out)
        have htu : tz u < 32 := by
          obtain ⟨m, hm⟩ := tz_form (Nat.pos_of_ne_zero hu0)
          have h1 : 2 ^ tz u * 1 ≤ u := by
            have : 2 ^ tz u * 1 ≤ 2 ^ tz u * (2 * m + 1) := Nat.mul_le_mul_left _ (by omega)
            omega
          exact (Nat.pow_lt_pow_iff_right (by omega : 1 < 2)).1 (show 2 ^ tz u < 2 ^ 32 by omega)
        have HE := Lib.hid hE
        clear hE hu0
        generalize tz u = tu at *
        go_wp2_with fail
        refine H2.out.mono ?_; rintro e w' ⟨rfl, rfl⟩
        go_wp2_with fail
        go_ret
        exact ⟨_, rfl, by rw [HE.out]; show _ = _; omega, rfl⟩

theorem and_mask {u l : Nat} (hu : u < 4294967296) (hl : l < 32) : bits .and .u32 (u : Int) (((2 : Int) ^ l - 1) % 4294967296) = ((u % 2 ^ l : Nat) : Int) := by
  have h1 : 2 ^ l < 4294967296 := Nat.pow_lt_pow_right (a := 2) (by omega) hl
  have h2 : 0 < 2 ^ l := Nat.pow_pos (by omega)
  have e : ((2 : Int) ^ l - 1) % 4294967296 = ((2 ^ l - 1 : Nat) : Int) := by
    have e1 : (2 : Int) ^ l - 1 = ((2 ^ l - 1 : Nat) : Int) := by rw [Int.natCast_sub h2, Int.natCast_pow]; rfl
    rw [e1]
    omega
  rw [e, u32_and_nat _ _ hu (by omega), Nat.and_two_pow_sub_one_eq_mod]

end Go.Proofs.YtajegednakenbaaDoor
