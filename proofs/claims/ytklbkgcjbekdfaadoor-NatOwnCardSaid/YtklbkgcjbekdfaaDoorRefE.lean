/- Walks: the reference's Low, Bit, Bits, Zeros; the mill's Nat and Mod; Bit of the program at any int. -/
import Derived.Test.YtklbkgcjbekdfaaDoorRefD
namespace Go.Proofs.YtklbkgcjbekdfaaDoor
open Go.RowKit

theorem rlow_any (x q l : Nat) (va : Value) (w : World) (ha : IsN w va x) (hx : len x ≤ 549755813888) (hl : l < 32) (hn : 32 * q + l ≤ 1099511627776) :
    Calls Tryd.prog 32 #[va, .int .i64 ((32 * q + l : Nat) : Int)] w (RetN w (x % 2 ^ (32 * q + l))) := by
  have H1 := rshr_any x q l va w ha (by omega) hl (by omega)
  obtain ⟨k, hk⟩ : ∃ k : Nat, k = 32 * q + l := ⟨_, rfl⟩
  have hlen : len (x / 2 ^ k) ≤ len x := len_mono (Nat.div_le_self _ _)
  have H2 := fun v w1 h => rshl_any (x / 2 ^ k) q l v w1 h (by omega) hl hn
  have hle : x / 2 ^ k * 2 ^ k ≤ x := Nat.div_mul_le_self _ _
  have H3 := fun v w1 h1 h2 => rless_any x (x / 2 ^ k * 2 ^ k) va v w1 h1 h2 (by omega) hle
  have hm : x - x / 2 ^ k * 2 ^ k = x % 2 ^ k := by have := Nat.div_add_mod x (2 ^ k); rw [Nat.mul_comm] at this; omega
  rw [← hk] at H1 H2 ⊢
  have HA := Lib.hid H1; clear H1
  have HB := Lib.hid H2; clear H2
  have HC := Lib.hid H3; clear H3
  have HM := Lib.hid hm; clear hm
  have HK := Lib.hid hk; clear hk
  clear hle hlen
  go_enter Tryd.func32, Tryd.ntmps32
  go_wp2_with fail
  refine HA.out.mono ?_
  rintro e w1 ⟨v1, rfl, h1⟩
  go_wp2_with fail
  refine (HB.out v1 w1 h1.isN).mono ?_
  rintro e w2 ⟨v2, rfl, h2⟩
  go_wp2_with fail
  refine (HC.out v2 w2 ((ha.mono h1.below).mono h2.below) h2.isN).mono ?_
  rintro e w3 ⟨v3, rfl, h3⟩
  go_wp2_with fail
  go_ret
  have hb := (h1.below.trans (h2.below.mono h1.below.size))
  refine ⟨_, rfl, ?_, hb.trans (h3.below.mono hb.size)⟩
  rw [← HM.out]
  exact h3.own.base_le hb.size

theorem rbit_any (x : Nat) (i : Int) (va : Value) (w : World) (ha : IsN w va x) (hi : i ≤ 9223372036854775807) :
    Calls Tryd.prog 36 #[va, .int .i64 i] w fun e w' => e = .returned (.bool (bitI x i)) ∧ w = w' := by
  obtain ⟨A, n, c, rfl, ha⟩ := ha
  rcases Int.lt_or_le i 0 with h0 | h0
  · rw [bitI_neg x h0]
    go_enter Tryd.func36, Tryd.ntmps36
    go_wp2_with fail
    go_ret
    exact ⟨rfl, rfl⟩
  · obtain ⟨k, rfl⟩ : ∃ k : Nat, i = (k : Int) := ⟨i.toNat, by omega⟩
    rw [bitI_nat]
    obtain ⟨q, hq⟩ : ∃ q, q = k / 32 := ⟨_, rfl⟩
    obtain ⟨l, hl⟩ : ∃ l, l = k % 32 := ⟨_, rfl⟩
    have hk : k = 32 * q + l := by omega
    have hl32 : l < 32 := by omega
    have h1 : (k : Int) / 32 = (q : Int) := by omega
    have h2 : (k : Int) % 32 = (l : Int) := by omega
    have hb : bitB x k = decide (nth (dig x) q / 2 ^ l % 2 = 1) := by rw [hk]; exact bitB_dig x q l hl32
    rw [hb]
    have H1 := at_any _ q A n c w ha
    have hu := (small_dig x).get q
    obtain ⟨u, hue⟩ : ∃ u, nth (dig x) q = u := ⟨_, rfl⟩
    rw [hue] at H1 hu ⊢
    rw [W32_eq] at hu
    have HA := Lib.hid H1
    clear H1 hue hb hq hl hk
    refine Calls.mono (R := fun e w' => e = .returned (.bool ((u : Int) / 2 ^ l % 2 == 1)) ∧ w = w') ?_ ?_
    · go_enter Tryd.func36, Tryd.ntmps36
      go_wp2_with fail
      refine HA.out.mono ?_; rintro e w' ⟨rfl, rfl⟩
      go_wp2_with fail
      go_ret
      exact ⟨rfl, rfl⟩
    · rintro e w' ⟨rfl, rfl⟩
      refine ⟨?_, rfl⟩
      have e1 : (u : Int) / 2 ^ l = ((u / 2 ^ l : Nat) : Int) := by rw [Int.natCast_ediv, Int.natCast_pow]; rfl
      have e3 : ((u : Int) / 2 ^ l % 2 == 1) = decide (u / 2 ^ l % 2 = 1) := by
        rw [e1, Bool.eq_iff_iff, beq_iff_eq, decide_eq_true_iff]
        omega
      rw [e3]

theorem nbitI_any (x : Nat) (i : Int) (va : Value) (w : World) (ha : IsN w va x) (hi : i ≤ 9223372036854775807) :
    Calls Tryd.prog 35 #[va, .int .i64 i] w fun e w' => e = .returned (.bool (bitI x i)) ∧ w = w' := by
  rcases Int.lt_or_le i 0 with h0 | h0
  · rw [bitI_neg x h0]
    exact nbit_neg i va w ha h0
  · obtain ⟨k, rfl⟩ : ∃ k : Nat, i = (k : Int) := ⟨i.toNat, by omega⟩
    rw [bitI_nat]
    have := nbit_any x (k / 32) (k % 32) va w ha (by omega) (by omega)
    rwa [show 32 * (k / 32) + k % 32 = k from by omega] at this

def NoBitFrom (x k : Nat) : Prop := ∀ j, k ≤ j → bitB x j = false
def NoBitTo (x k : Nat) : Prop := ∀ j, j < k → bitB x j = false

theorem rbits_any (x : Nat) (va : Value) (w : World) (ha : IsN w va x) (hx : len x ≤ 1099511627776) :
    Calls Tryd.prog 37 #[va] w fun e w' => e = .returned (.int .i64 (blen x : Nat)) ∧ w = w' := by
  have HB := Lib.hid (fun k : Nat => fun hk : k ≤ 9223372036854775807 => rbit_any x (k : Int) va w ha (by omega))
  obtain ⟨A, n, c, rfl, ha⟩ := ha
  have hn40 : n ≤ 1099511627776 := by rw [← ha.len]; exact hx
  have hlen : blen x ≤ 32 * n := by rw [← ha.len, length_dig]; exact blen_le_len x
  have HLEN := Lib.hid hlen; clear hlen
  refine Calls.mono (R := fun e w' => ∃ k : Nat, e = .returned (.int .i64 k) ∧ Hid (blen x = k) ∧ w = w') ?_ (by rintro e w' ⟨k, rfl, h1, h2⟩; exact ⟨by rw [h1.out], h2⟩)
  go_enter Tryd.func37, Tryd.ntmps37
  go_wp2_with fail
  go_loop [3] (fun t => ∃ k : Nat, t = .int .i64 k ∧ k ≤ 32 * n ∧ NoBitFrom x k) (fun t => (intOf t).toNat)
  case atStart => exact ⟨32 * n, congrArg (Value.int .i64) (by omega), by omega, fun j hj => bitB_high (Nat.le_trans HLEN.out hj)⟩
  case round =>
    obtain ⟨k, rfl, hk, HN⟩ := hrel
    rcases Nat.eq_zero_or_pos k with h0 | h0
    · subst h0
      go_wp2_with fail
      go_ret
      exact ⟨0, rfl, blen_of_bits HN (by omega), rfl⟩
    · obtain ⟨m, rfl⟩ : ∃ m, k = m + 1 := ⟨k - 1, by omega⟩
      have H1 := HB.out m (by omega)
      rw [bitI_nat] at H1
      rcases hb : bitB x m with _ | _
      · rw [hb] at H1
        have HH := Lib.hid H1; clear H1
        have HBB := Lib.hid hb; clear hb
        go_wp2_with fail
        refine HH.out.mono ?_; rintro e w' ⟨rfl, rfl⟩
        go_wp2_with fail
        go_round
        case rel =>
          refine ⟨m, by go_num, by omega, fun j hj => ?_⟩
          rcases Nat.eq_or_lt_of_le hj with rfl | hj
          · exact HBB.out
          · exact HN j hj
        case measure => simp [intOf] <;> omega
      · rw [hb] at H1
        have HH := Lib.hid H1; clear H1
        have HBB := Lib.hid hb; clear hb
        go_wp2_with fail
        refine HH.out.mono ?_; rintro e w' ⟨rfl, rfl⟩
        go_wp2_with fail
        go_ret
        exact ⟨m + 1, rfl, blen_of_bits HN (fun _ => HBB.out), rfl⟩

theorem rzeros_any (x : Nat) (va : Value) (w : World) (ha : IsN w va x) (hx : len x ≤ 1099511627776) :
    Calls Tryd.prog 38 #[va] w fun e w' => e = .returned (.int .i64 (tz x : Nat)) ∧ w = w' := by
  have HB := Lib.hid (fun k : Nat => fun hk : k ≤ 9223372036854775807 => rbit_any x (k : Int) va w ha (by omega))
  obtain ⟨A, n, c, rfl, ha⟩ := ha
  have hn40 : n ≤ 1099511627776 := by rw [← ha.len]; exact hx
  have hlen : blen x ≤ 32 * n := by rw [← ha.len, length_dig]; exact blen_le_len x
  have HLEN := Lib.hid hlen; clear hlen
  refine Calls.mono (R := fun e w' => ∃ k : Nat, e = .returned (.int .i64 k) ∧ Hid (tz x = k) ∧ w = w') ?_ (by rintro e w' ⟨k, rfl, h1, h2⟩; exact ⟨by rw [h1.out], h2⟩)
  go_enter Tryd.func38, Tryd.ntmps38
  go_wp2_with fail
  go_loop [3] (fun t => ∃ k : Nat, t = .int .i64 k ∧ k ≤ 32 * n ∧ NoBitTo x k) (fun t => 32 * n - (intOf t).toNat)
  case atStart => exact ⟨0, rfl, by omega, fun j hj => by omega⟩
  case round =>
    obtain ⟨k, rfl, hk, HN⟩ := hrel
    rcases Nat.lt_or_ge k (32 * n) with h0 | h0
    · have H1 := HB.out k (by omega)
      rw [bitI_nat] at H1
      rcases hb : bitB x k with _ | _
      · rw [hb] at H1
        have HH := Lib.hid H1; clear H1
        have HBB := Lib.hid hb; clear hb
        go_wp2_with fail
        refine HH.out.mono ?_; rintro e w' ⟨rfl, rfl⟩
        go_wp2_with fail
        go_round
        case rel =>
          refine ⟨k + 1, by go_num, by omega, fun j hj => ?_⟩
          rcases Nat.eq_or_lt_of_le (Nat.le_of_lt_succ hj) with rfl | hj
          · exact HBB.out
          · exact HN j hj
        case measure => simp [intOf] <;> omega
      · rw [hb] at H1
        have HH := Lib.hid H1; clear H1
        have HBB := Lib.hid hb; clear hb
        go_wp2_with fail
        refine HH.out.mono ?_; rintro e w' ⟨rfl, rfl⟩
        go_wp2_with fail
        go_ret
        exact ⟨k, rfl, tz_of HN HBB.out, rfl⟩
    · have h0' : ¬ (k : Int) < 32 * n := by omega
      go_wp2_with fail
      go_ret
      refine ⟨0, rfl, ?_, rfl⟩
      have : x = 0 := zero_of_bits fun j => by
        rcases Nat.lt_or_ge j k with h | h
        · exact HN j h
        · exact bitB_high (by have := HLEN.out; omega)
      rw [this]
      exact tz_zero

/-- A list that is short enough, as a natural, and true; or nothing and false. -/
def RetMillNat (w : World) (l : List Nat) (m : Nat) (e : Ending) (w' : World) : Prop :=
  (l.length ≤ m ∧ ∃ v, e = .returned (.tuple #[v, .bool true]) ∧ Out w w' v (trim l)) ∨ (m < l.length ∧ e = .returned (.tuple #[.slice none 0 0, .bool false]) ∧ w = w')
theorem millNat_any (l : List Nat) (m : Nat) (A : Option Addr) (n c : Nat) (w : World) (h : Sl w A n c l) (hm : m ≤ 1000000) :
    Calls Tryd.prog 19 #[.slice A n c, .int .i64 (m : Int)] w (RetMillNat w l m) := by
  have HL := Lib.hid h.len
  have h63 := h.le63
  rcases Nat.lt_or_ge m n with hlt | hge
  · go_enter Tryd.func19, Tryd.ntmps19
    go_wp2_with fail
    go_ret2
    exact .inr ⟨by rw [HL.out]; exact hlt, rfl, rfl⟩
  · have HT := Lib.hid (rtrim_any l A n c w h (by omega))
    go_enter Tryd.func19, Tryd.ntmps19
    go_wp2_with fail
    refine HT.out.mono ?_
    rintro e w' ⟨v, rfl, hv⟩
    go_wp2_with fail
    go_ret2
    exact .inl ⟨by rw [HL.out]; exact hge, v, rfl, hv⟩

theorem tmod_neg {v n : Int} (h : v < 0) : v.tmod n = -((-v) % n) := by
  rw [← Int.tmod_eq_emod_of_nonneg (show 0 ≤ -v by omega), Int.neg_tmod, Int.neg_neg]
theorem emod_neg {v n : Int} (hn : 1 ≤ n) : v % n = if (-v) % n = 0 then 0 else n - (-v) % n := by
  have h1 := Int.mul_ediv_add_emod (-v) n
  have h2 := Int.emod_nonneg (-v) (show n ≠ 0 by omega)
  have h3 := Int.emod_lt_of_pos (-v) (show 0 < n by omega)
  generalize (-v) % n = r at *
  generalize (-v) / n = q at *
  split
  · rename_i hr
    have e : v = n * (-q) := by rw [Int.mul_neg]; omega
    rw [e, Int.mul_emod_right]
  · have e : v = (n - r) + n * (-q - 1) := by rw [Int.mul_sub, Int.mul_neg, Int.mul_one]; omega
    rw [e, Int.add_mul_emod_self_left, Int.emod_eq_of_lt (by omega) (by omega)]

/-- The remainder, from 0 on. -/
theorem mod_any (v n : Int) (w : World) (hn : 1 ≤ n) (hn2 : n ≤ 1000000000) (h1 : -9223372036854775808 ≤ v) (h2 : v ≤ 9223372036854775807) :
    Calls Tryd.prog 26 #[.int .i64 v, .int .i64 n] w fun e w' => e = .returned (.int .i64 (v % n)) ∧ w = w' := by
  have hz : (n == 0) = false := by rw [beq_eq_false_iff_ne]; omega
  have hlo := Int.emod_nonneg v (show n ≠ 0 by omega)
  have hhi := Int.emod_lt_of_pos v (show 0 < n by omega)
  rcases Int.lt_or_le v 0 with h0 | h0
  · have e1 := tmod_neg (n := n) h0
    have e2 := emod_neg (v := v) hn
    have h3 := Int.emod_nonneg (-v) (show n ≠ 0 by omega)
    have h4 := Int.emod_lt_of_pos (-v) (show 0 < n by omega)
    rw [e2]
    by_cases hr : (-v) % n = 0
    · rw [if_pos hr]
      rw [hr] at e1
      have e1' : v.tmod n = 0 := e1
      clear e2 h3 h4 hr e1 hlo hhi
      go_enter Tryd.func26, Tryd.ntmps26
      go_wp2_with fail
      go_ret
      exact ⟨rfl, rfl⟩
    · rw [if_neg hr]
      generalize (-v) % n = r at *
      have hneg : v.tmod n < 0 := by omega
      have hlow : -1000000000 ≤ v.tmod n := by omega
      have E := Lib.hid e1
      clear e2 hr e1 hlo hhi
      go_enter Tryd.func26, Tryd.ntmps26
      go_wp2_with fail
      go_ret
      exact ⟨congrArg (fun i => Ending.returned (Value.int .i64 i)) (by rw [E.out]; omega), rfl⟩
  · go_enter Tryd.func26, Tryd.ntmps26
    go_wp2_with fail
    go_ret
    exact ⟨rfl, rfl⟩

end Go.Proofs.YtklbkgcjbekdfaaDoor
