/- Powers of dyadics as fractions, as program and reference make them. -/
import Derived.Test.YthfabjpbdgieoaaGreatDoorRdWZ
import Derived.Test.YthfabjpbdgieoaaGreatDoorRdKZ
import Derived.Test.YthfabjpbdgieoaaGreatDoorRefRatP3
import Derived.Test.YthfabjpbdgieoaaGreatDoorRatPw
import Derived.Test.YthfabjpbdgieoaaGreatDoorBaseE
import Derived.Test.YthfabjpbdgieoaaGreatDoorRdPAZ
namespace Go.Proofs.YthfabjpbdgieoaaGreatDoor
open Go.RowKit
set_option linter.unusedVariables false
set_option linter.unusedSimpArgs false
set_option maxRecDepth 100000
attribute [local go_sem ↓] Go.wp_at_zero Go.wp_at_succ

theorem sg_pow (a : Int) (k : Nat) : sg (ng a && k % 2 == 1) (a.natAbs ^ k) = a ^ k := by
  rcases (show a < 0 ∨ 0 ≤ a by omega) with h | h
  · rw [ng_yes h, Bool.true_and]
    obtain ⟨b, rfl⟩ : ∃ b : Nat, a = -(b : Int) := ⟨a.natAbs, by omega⟩
    rw [Int.natAbs_neg, Int.natAbs_natCast]
    clear h
    induction k with
    | zero => rw [Nat.pow_zero, Int.pow_zero]; rfl
    | succ k ih =>
      rw [Int.pow_succ, ← ih, Nat.pow_succ]
      rcases Nat.mod_two_eq_zero_or_one k with h2 | h2
      · rw [h2, show (k + 1) % 2 = 1 by omega]
        show -((b ^ k * b : Nat) : Int) = ((b ^ k : Nat) : Int) * -(b : Int)
        rw [Int.natCast_mul, Int.mul_neg]
      · rw [h2, show (k + 1) % 2 = 0 by omega]
        show ((b ^ k * b : Nat) : Int) = -((b ^ k : Nat) : Int) * -(b : Int)
        rw [Int.natCast_mul, Int.neg_mul_neg]
  · rw [ng_no h, Bool.false_and]
    obtain ⟨b, rfl⟩ : ∃ b : Nat, a = (b : Int) := ⟨a.natAbs, by omega⟩
    rw [Int.natAbs_natCast]
    exact Int.natCast_pow b k
/-- The inverse of a power. -/
theorem inv_val {a : Int} (ha : a ≠ 0) (k : Nat) (X Y : Nat) (hY : 0 < Y) : Rat.divInt (sg (ng a && k % 2 == 1) 1 * (X : Int)) ((a.natAbs ^ k * Y : Nat) : Int) = (Rat.divInt (a ^ k * (Y : Int)) (X : Int))⁻¹ := by
  rw [Rat.inv_divInt, ← sg_pow a k]
  have hp : 0 < a.natAbs ^ k := Nat.pow_pos (by omega)
  have h1 : ((a.natAbs ^ k * Y : Nat) : Int) ≠ 0 := by
    have := Nat.mul_pos hp hY
    omega
  generalize (ng a && k % 2 == 1) = b
  generalize a.natAbs ^ k = A at *
  have h2 : sg b A * (Y : Int) ≠ 0 := by
    refine Int.mul_ne_zero ?_ (by omega)
    cases b <;> unfold sg <;> simp <;> omega
  rw [Rat.divInt_eq_divInt_iff h1 h2, Int.natCast_mul]
  cases b
  · show ((1 : Nat) : Int) * (X : Int) * ((A : Int) * (Y : Int)) = (X : Int) * ((A : Int) * (Y : Int))
    rw [show ((1 : Nat) : Int) = 1 from rfl, Int.one_mul]
  · show -((1 : Nat) : Int) * (X : Int) * (-(A : Int) * (Y : Int)) = (X : Int) * ((A : Int) * (Y : Int))
    rw [show ((1 : Nat) : Int) = 1 from rfl, Int.neg_mul, Int.neg_mul, Int.one_mul, Int.neg_mul, Int.mul_neg, Int.neg_neg]
theorem sg_one (b : Bool) (X : Nat) : sg b X = sg b 1 * (X : Int) := by
  cases b
  · show (X : Int) = ((1 : Nat) : Int) * (X : Int)
    rw [show ((1 : Nat) : Int) = 1 from rfl, Int.one_mul]
  · show -(X : Int) = -((1 : Nat) : Int) * (X : Int)
    rw [show ((1 : Nat) : Int) = 1 from rfl, Int.neg_mul, Int.one_mul]
/-- How long a power of a short number is. -/
theorem len_pw {x k K : Nat} (h : len x * k ≤ K) : len (x ^ k) ≤ K + 1 := Nat.le_trans (len_pow x k) (by rw [Nat.mul_comm]; omega)
def PB (m e j : Int) : Prop := zl m ≤ 400 ∧ (-10000 ≤ e ∧ e ≤ 10000) ∧ (-64 ≤ j ∧ j ≤ 64) ∧ (zl m + (e.natAbs / 32 + 1)) * j.natAbs ≤ 780
theorem pb_len {m e j : Int} (h : PB m e j) : zl m * j.natAbs ≤ 780 ∧ (zl m + (e.natAbs / 32 + 1)) * j.natAbs ≤ 780 ∧ (e * j).natAbs / 32 + zl m * j.natAbs ≤ 780 ∧ (e * j).natAbs ≤ 640000 := by
  obtain ⟨_, h1, h2, h3⟩ := h
  have h4 := h3
  rw [Nat.add_mul] at h4
  have h5 : (e * j).natAbs / 32 ≤ (e.natAbs / 32 + 1) * j.natAbs := by
    rw [Int.natAbs_mul]
    have h6 : e.natAbs ≤ 32 * (e.natAbs / 32 + 1) := by omega
    have h7 := Nat.mul_le_mul_right j.natAbs h6
    rw [Nat.mul_assoc] at h7
    omega
  have h8 : (e * j).natAbs ≤ 10000 * 64 := by
    rw [Int.natAbs_mul]
    exact Nat.mul_le_mul (by omega) (by omega)
  exact ⟨by omega, h3, by omega, h8⟩
/-- The power that the reference takes. -/
theorem rpow_pair {m e j : Int} (hv : Dv m e) (hb : PB m e j) (h0 : j < 0 → m ≠ 0) : ∃ (a : Int) (d : Nat), 0 < d ∧ zl a ≤ 800 ∧ len d ≤ 800 ∧ Rat.divInt a (d : Int) = pw (dq m e) j ∧ ∀ v W, IsP W v (m * 2 ^ e.toNat) (2 ^ (-e).toNat) → Calls Tryz.prog 31 #[v, .int .i64 j] W (RetPE W a d 0) := by
  obtain ⟨_, l1, _, _⟩ := pb_len hb
  obtain ⟨b1, b2, b3, _⟩ := hb
  have z1 := zl_two m e.toNat
  have z2 := len_two (-e).toNat
  have d0 := two_pos8 (-e).toNat
  have e1 : zl (m * 2 ^ e.toNat) ≤ zl m + (e.natAbs / 32 + 1) := by
    have : e.toNat / 32 ≤ e.natAbs / 32 := Nat.div_le_div_right (by omega)
    omega
  have e2 : len (2 ^ (-e).toNat) ≤ zl m + (e.natAbs / 32 + 1) := by
    have : (-e).toNat / 32 ≤ e.natAbs / 32 := Nat.div_le_div_right (by omega)
    omega
  obtain ⟨f1, f2⟩ := dq_form hv
  have hg : Nat.gcd (m * 2 ^ e.toNat).natAbs (2 ^ (-e).toNat) = 1 := by
    rw [← f1, ← f2]
    exact (dq m e).reduced
  have hne : m ≠ 0 → m * 2 ^ e.toNat ≠ 0 := fun h => Int.mul_ne_zero h (pow2_ne _)
  have hq : dq m e = Rat.divInt (m * 2 ^ e.toNat) ((2 ^ (-e).toNat : Nat) : Int) := rfl
  rw [hq]
  have e3 := Nat.le_trans (Nat.mul_le_mul_right j.natAbs e1) l1
  have e4 := Nat.le_trans (Nat.mul_le_mul_right j.natAbs e2) l1
  have e5 : zl (m * 2 ^ e.toNat) ≤ 1000 := by omega
  have e6 : len (2 ^ (-e).toNat) ≤ 1000 := by omega
  clear z1 z2 e1 e2 f1 f2 hq l1 b1 b2
  generalize m * 2 ^ e.toNat = a at *
  generalize 2 ^ (-e).toNat = d at *
  rcases Int.lt_or_le j 0 with hj | hj
  · obtain ⟨k, hk⟩ : ∃ k : Nat, j = -(k : Int) := ⟨(-j).toNat, by omega⟩
    have hk0 : 0 < k := by omega
    have ha := hne (h0 hj)
    have hjk : j.natAbs = k := by omega
    rw [hjk] at e3 e4
    refine ⟨sg (ng a && k % 2 == 1) (d ^ k), a.natAbs ^ k, Nat.pow_pos (by omega), ?_, ?_, ?_, fun v W h => rpow7_neg k a d j hk v W h e5 e6 (by omega) hk0 d0 ha hg⟩
    · rw [zl_sg]
      exact Nat.le_trans (len_pw e4) (by omega)
    · exact Nat.le_trans (len_pw (x := a.natAbs) e3) (by omega)
    · have h := inv_val ha k (d ^ k) 1 (by omega)
      rw [← sg_one, Nat.mul_one, show ((1 : Nat) : Int) = 1 from rfl, Int.mul_one] at h
      rw [h, hk, pw_neg _ hk0, qpow_div, Int.natCast_pow]
  · obtain ⟨k, hk⟩ : ∃ k : Nat, j = (k : Int) := ⟨j.toNat, by omega⟩
    have hjk : j.natAbs = k := by omega
    rw [hjk] at e3 e4
    subst hk
    refine ⟨sg (ng a && k % 2 == 1) (a.natAbs ^ k), d ^ k, Nat.pow_pos d0, ?_, ?_, ?_, fun v W h => rpow7_nn k a d v W h e5 e6 (by omega)⟩
    · rw [zl_sg]
      exact Nat.le_trans (len_pw (x := a.natAbs) e3) (by omega)
    · exact Nat.le_trans (len_pw e4) (by omega)
    · rw [sg_pow, pw_nat, qpow_div, Int.natCast_pow]
/-- The parts of the program's power. -/
def dpN (m j : Int) : Int := if j < 0 then sg (ng m && j.natAbs % 2 == 1) 1 else m ^ j.natAbs
def dpD (m j : Int) : Nat := if j < 0 then m.natAbs ^ j.natAbs else 1
theorem ppow_part {m e j : Int} (hb : PB m e j) (h0 : j < 0 → m ≠ 0) (v : Value) (W : World) (h : IsP W v m 1) : Calls Tryz.prog 155 #[v, .int .i64 j] W (RetPE W (dpN m j) (dpD m j) 0) := by
  obtain ⟨b1, b2, b3, _⟩ := hb
  have l1 : len 1 ≤ 1 := len_le1 (by decide)
  unfold dpN dpD
  rcases Int.lt_or_le j 0 with hj | hj
  · rw [if_pos hj, if_pos hj]
    have := ppower_neg j.natAbs m 1 j (by omega) v W h (by omega) (by omega) (by omega) (by omega) (h0 hj)
    rwa [Nat.one_pow] at this
  · rw [if_neg (by omega), if_neg (by omega)]
    have := ppower_nn j.natAbs m 1 v W h (by omega) (by omega) (by omega)
    rwa [Nat.one_pow, sg_pow, show ((j.natAbs : Nat) : Int) = j from by omega] at this
theorem dpow_val {m e j : Int} (h0 : j < 0 → m ≠ 0) : 0 < dpD m j * 2 ^ (-(e * j)).toNat ∧ Rat.divInt (dpN m j * 2 ^ (e * j).toNat) ((dpD m j * 2 ^ (-(e * j)).toNat : Nat) : Int) = pw (dq m e) j := by
  unfold dpN dpD
  have t1 := two_pos8 (-(e * j)).toNat
  rcases Int.lt_or_le j 0 with hj | hj
  · rw [if_pos hj, if_pos hj]
    obtain ⟨k, hk⟩ : ∃ k : Nat, j = -(k : Int) := ⟨(-j).toNat, by omega⟩
    have hjk : j.natAbs = k := by omega
    have hm := h0 hj
    have hp : 0 < m.natAbs ^ k := Nat.pow_pos (by omega)
    rw [hjk]
    refine ⟨Nat.mul_pos hp t1, ?_⟩
    have h := inv_val hm k (2 ^ (e * j).toNat) (2 ^ (-(e * j)).toNat) t1
    rw [cast2, cast2] at h
    rw [h, hk, pw_neg _ (by omega), qpow_dq]
    unfold dq
    rw [show -(e * -(k : Int)) = e * (k : Int) from by rw [Int.mul_neg, Int.neg_neg], show e * -(k : Int) = -(e * (k : Int)) from by rw [Int.mul_neg], cast2]
  · rw [if_neg (by omega), if_neg (by omega)]
    obtain ⟨k, hk⟩ : ∃ k : Nat, j = (k : Int) := ⟨j.toNat, by omega⟩
    have hjk : j.natAbs = k := by omega
    rw [hjk, Nat.one_mul, hk, pw_nat, qpow_dq]
    exact ⟨by rw [← hk]; exact t1, rfl⟩
theorem dpow_len {m e j : Int} (hb : PB m e j) : zl (dpN m j) ≤ 782 ∧ len (dpD m j) ≤ 782 ∧ zl (dpN m j * 2 ^ (e * j).toNat) ≤ 800 ∧ len (dpD m j * 2 ^ (-(e * j)).toNat) ≤ 800 := by
  obtain ⟨l1, _, l3, _⟩ := pb_len hb
  have hn : zl (dpN m j) ≤ zl m * j.natAbs + 1 := by
    unfold dpN
    split
    · rw [zl_sg]
      have := len_le1 (show 1 < 4294967296 by omega)
      omega
    · rw [← sg_pow, zl_sg]
      exact len_pw (Nat.le_refl _)
  have hd : len (dpD m j) ≤ zl m * j.natAbs + 1 := by
    unfold dpD
    split
    · exact len_pw (Nat.le_refl _)
    · have := len_le1 (show 1 < 4294967296 by omega)
      omega
  have z1 := zl_two (dpN m j) (e * j).toNat
  have z2 := len_mul (dpD m j) (2 ^ (-(e * j)).toNat)
  have z3 := len_two (-(e * j)).toNat
  have y1 : (e * j).toNat / 32 ≤ (e * j).natAbs / 32 := Nat.div_le_div_right (by omega)
  have y2 : (-(e * j)).toNat / 32 ≤ (e * j).natAbs / 32 := Nat.div_le_div_right (by omega)
  exact ⟨by omega, by omega, by omega, by omega⟩


end Go.Proofs.YthfabjpbdgieoaaGreatDoor
