/- Walks: the reference's Low, Bit, Bits, Zeros; Bit of the program at any int. -/
import Derived.Test.YtdlojigbphhjaaaRefD
import Derived.Test.YtdlojigbphhjaaaMill
namespace Go.Proofs.Ytdlojigbphhjaaa
open Go.RowKit

theorem rbit_any (x : Nat) (i : Int) (va : Value) (w : World) (ha : IsN w va x) (hi : i ≤ 9223372036854775807) :
    Calls Try.prog 66 #[va, .int .i64 i] w fun e w' => e = .returned (.bool (bitI x i)) ∧ w = w' := by
  obtain ⟨A, n, c, rfl, ha⟩ := ha
  rcases Int.lt_or_le i 0 with h0 | h0
  · rw [bitI_neg x h0]
    go_enter Try.func66, Try.ntmps66
    go_wp2_with fail
    go_ret
    exact ⟨rfl, rfl⟩
  · obtain ⟨k, rfl⟩ : ∃ k : Nat, i = (k : Int) := ⟨i.toNat, by omega⟩
    rw [bitI_nat]
    obtain ⟨q, hq⟩ : ∃ q, q = k / 32 := ⟨_, rfl⟩
    obtain ⟨l, hl⟩ : ∃ l, l = k % 32 := ⟨_, rfl⟩
    have hk : k = 32 * q + l := by omega
    have hl32 : l < 32 := by omega
    have h1 : (k : Int) / 32 = (q : Int) := by omega
    have h2 : (k : Int) % 32 = (l : Int) := by omega
    have hb : bitB x k = decide (nth (dig x) q / 2 ^ l % 2 = 1) := by rw [hk]; exact bitB_dig x q l hl32
    rw [hb]
    have H1 := at_any _ q A n c w ha
    have hu := (small_dig x).get q
    obtain ⟨u, hue⟩ : ∃ u, nth (dig x) q = u := ⟨_, rfl⟩
    rw [hue] at H1 hu ⊢
    rw [W32_eq] at hu
    have HA := Lib.hid H1
    clear H1 hue hb hq hl hk
    refine Calls.mono (R := fun e w' => e = .returned (.bool ((u : Int) / 2 ^ l % 2 == 1)) ∧ w = w') ?_ ?_
    · go_enter Try.func66, Try.ntmps66
      go_wp2_with fail
      refine HA.out.mono ?_; rintro e w' ⟨rfl, rfl⟩
      go_wp2_with fail
      go_ret
      exact ⟨rfl, rfl⟩
    · rintro e w' ⟨rfl, rfl⟩
      refine ⟨?_, rfl⟩
      have e1 : (u : Int) / 2 ^ l = ((u / 2 ^ l : Nat) : Int) := by rw [Int.natCast_ediv, Int.natCast_pow]; rfl
      have e3 : ((u : Int) / 2 ^ l % 2 == 1) = decide (u / 2 ^ l % 2 = 1) := by
        rw [e1, Bool.eq_iff_iff, beq_iff_eq, decide_eq_true_iff]
        omega
      rw [e3]

def NoBitFrom (x k : Nat) : Prop := ∀ j, k ≤ j → bitB x j = false
def NoBitTo (x k : Nat) : Prop := ∀ j, j < k → bitB x j = false

theorem rbits_any (x : Nat) (va : Value) (w : World) (ha : IsN w va x) (hx : len x ≤ 1099511627776) :
    Calls Try.prog 57 #[va] w fun e w' => e = .returned (.int .i64 (blen x : Nat)) ∧ w = w' := by
  have HB := Lib.hid (fun k : Nat => fun hk : k ≤ 9223372036854775807 => rbit_any x (k : Int) va w ha (by omega))
  obtain ⟨A, n, c, rfl, ha⟩ := ha
  have hn40 : n ≤ 1099511627776 := by rw [← ha.len]; exact hx
  have hlen : blen x ≤ 32 * n := by rw [← ha.len, length_dig]; exact blen_le_len x
  have HLEN := Lib.hid hlen; clear hlen
  refine Calls.mono (R := fun e w' => ∃ k : Nat, e = .returned (.int .i64 k) ∧ Hid (blen x = k) ∧ w = w') ?_ (by rintro e w' ⟨k, rfl, h1, h2⟩; exact ⟨by rw [h1.out], h2⟩)
  go_enter Try.func57, Try.ntmps57
  go_wp2_with fail
  go_loop [3] (fun t => ∃ k : Nat, t = .int .i64 k ∧ k ≤ 32 * n ∧ NoBitFrom x k) (fun t => (intOf t).toNat)
  case atStart => exact ⟨32 * n, congrArg (Value.int .i64) (by omega), by omega, fun j hj => bitB_high (Nat.le_trans HLEN.out hj)⟩
  case round =>
    obtain ⟨k, rfl, hk, HN⟩ := hrel
    rcases Nat.eq_zero_or_pos k with h0 | h0
    · subst h0
      go_wp2_with fail
      go_ret
      exact ⟨0, rfl, blen_of_bits HN (by omega), rfl⟩
    · obtain ⟨m, rfl⟩ : ∃ m, k = m + 1 := ⟨k - 1, by omega⟩
      have H1 := HB.out m (by omega)
      rw [bitI_nat] at H1
      rcases hb : bitB x m with _ | _
      · rw [hb] at H1
        have HH := Lib.hid H1; clear H1
        have HBB := Lib.hid hb; clear hb
        go_wp2_with fail
        refine HH.out.mono ?_; rintro e w' ⟨rfl, rfl⟩
        go_wp2_with fail
        go_round
        case rel =>
          refine ⟨m, by go_num, by omega, fun j hj => ?_⟩
          rcases Nat.eq_or_lt_of_le hj with rfl | hj
          · exact HBB.out
          · exact HN j hj
        case measure => simp [intOf] <;> omega
      · rw [hb] at H1
        have HH := Lib.hid H1; clear H1
        have HBB := Lib.hid hb; clear hb
        go_wp2_with fail
        refine HH.out.mono ?_; rintro e w' ⟨rfl, rfl⟩
        go_wp2_with fail
        go_ret
        exact ⟨m + 1, rfl, blen_of_bits HN (fun _ => HBB.out), rfl⟩

end Go.Proofs.Ytdlojigbphhjaaa
