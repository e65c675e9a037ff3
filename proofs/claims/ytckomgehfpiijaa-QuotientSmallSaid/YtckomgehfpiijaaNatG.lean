/- Walks: nat.Low, Bit, Zeros. -/
import Derived.Test.YtckomgehfpiijaaNatF
import Derived.Test.YtckomgehfpiijaaBits
import Derived.Test.YtckomgehfpiijaaNBits
import Derived.RegionTactic
import Derived.ChangeAlike
namespace Go.Proofs.Ytckomgehfpiijaa
open Go.RowKit

theorem nbit_any (x q l : Nat) (va : Value) (w : World) (ha : IsN w va x) (hl : l < 32) (hk : 32 * q + l ≤ 9223372036854775807) :
    Calls Try.prog 41 #[va, .int .i64 ((32 * q + l : Nat) : Int)] w fun e w' => e = .returned (.bool (bitB x (32 * q + l))) ∧ w = w' := by
  obtain ⟨A, n, c, rfl, ha⟩ := ha
  rw [bitB_dig x q l hl]
  have hn63 := ha.le63
  obtain ⟨k, hk'⟩ : ∃ k : Nat, k = 32 * q + l := ⟨_, rfl⟩
  have h1 : (k : Int) / 32 = (q : Int) := by omega
  have h2 : (k : Int) % 32 = (l : Int) := by omega
  rw [← hk'] at hk ⊢
  clear hk'
  rcases Nat.lt_or_ge q n with hqn | hqn
  · obtain ⟨b, off, u, rfl, _, hc, HU, hu⟩ := ha.get (Below.refl _ _) (k := q) hqn
    rw [HU.out]
    refine Calls.mono (R := fun e w' => e = .returned (.bool (bits .and .u32 ((u : Int) / 2 ^ l) 1 == 1)) ∧ w = w') ?_ ?_
    · go_enter Try.func41, Try.ntmps41
      go_wp2_with fail
      go_ret
      exact ⟨rfl, rfl⟩
    · rintro e w' ⟨rfl, rfl⟩
      refine ⟨?_, rfl⟩
      have hul : u / 2 ^ l < 4294967296 := Nat.lt_of_le_of_lt (Nat.div_le_self _ _) hu
      have e1 : (u : Int) / 2 ^ l = ((u / 2 ^ l : Nat) : Int) := by rw [Int.natCast_ediv, Int.natCast_pow]; rfl
      have e2 : bits .and .u32 ((u / 2 ^ l : Nat) : Int) 1 = ((u / 2 ^ l % 2 : Nat) : Int) := by
        have := u32_and_nat (u / 2 ^ l) 1 hul (by omega)
        rw [Nat.and_one_is_mod] at this
        exact this
      have e3 : (bits .and .u32 ((u : Int) / 2 ^ l) 1 == 1) = decide (u / 2 ^ l % 2 = 1) := by
        rw [e1, e2, Bool.eq_iff_iff, beq_iff_eq, decide_eq_true_iff]
        omega
      rw [e3]
  · rw [nth_of_ge (by rw [ha.len]; exact hqn)]
    have e0 : decide (0 / 2 ^ l % 2 = 1) = false := by simp
    rw [e0]
    go_enter Try.func41, Try.ntmps41
    go_wp2_with fail
    go_ret
    exact ⟨rfl, rfl⟩
theorem nbit_neg (i : Int) (va : Value) (w : World) {x : Nat} (ha : IsN w va x) (hi : i < 0) :
    Calls Try.prog 41 #[va, .int .i64 i] w fun e w' => e = .returned (.bool false) ∧ w = w' := by
  obtain ⟨A, n, c, rfl, ha⟩ := ha
  go_enter Try.func41, Try.ntmps41
  go_wp2_with fail
  go_ret
  exact ⟨rfl, rfl⟩

def ZerosTo (x j : Nat) : Prop := ∀ i, i < j → nth (dig x) i = 0

theorem and_mask {u l : Nat} (hu : u < 4294967296) (hl : l < 32) : bits .and .u32 (u : Int) (((2 : Int) ^ l - 1) % 4294967296) = ((u % 2 ^ l : Nat) : Int) := by
  have h1 : 2 ^ l < 4294967296 := Nat.pow_lt_pow_right (a := 2) (by omega) hl
  have h2 : 0 < 2 ^ l := Nat.pow_pos (by omega)
  have e : ((2 : Int) ^ l - 1) % 4294967296 = ((2 ^ l - 1 : Nat) : Int) := by
    have e1 : (2 : Int) ^ l - 1 = ((2 ^ l - 1 : Nat) : Int) := by rw [Int.natCast_sub h2, Int.natCast_pow]; rfl
    rw [e1]
    omega
  rw [e, u32_and_nat _ _ hu (by omega), Nat.and_two_pow_sub_one_eq_mod]

end Go.Proofs.Ytckomgehfpiijaa
