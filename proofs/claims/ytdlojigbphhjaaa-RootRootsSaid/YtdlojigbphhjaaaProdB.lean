/- Walks: bits.Len (by the library's contract), product.Power. -/
import Derived.Test.YtdlojigbphhjaaaProdA
import Derived.Test.YtdlojigbphhjaaaLen32
import Derived.Test.YtdlojigbphhjaaaLits
namespace Go.Proofs.Ytdlojigbphhjaaa
open Go.RowKit

def lenRen : Go.Shelf.Ren := ⟨fun | 125 => 67 | 128 => 45 | 129 => 70 | n => n, fun | 3 => 3 | 4 => 4 | 46 => 45 | 5 => 5 | 9 => 9 | 51 => 43 | 53 => 29 | n => n, fun | n => n⟩
theorem lenLays : Go.Proofs.Lays.n125 Try.prog lenRen := {
  mixed := by kernel_rfl
  f125 := Try.func67.trans (congrArg some (by kernel_rfl))
  f128 := Try.func45.trans (congrArg some (by kernel_rfl))
  f129 := Try.func70.trans (congrArg some (by kernel_rfl))
  t3 := Try.underlying3
  a3 := Try.isAgg3
  z3 := Try.sizeOf3
  v3 := Try.zeroValue3
  t4 := Try.underlying4
  a4 := Try.isAgg4
  z4 := Try.sizeOf4
  v4 := Try.zeroValue4
  t5 := Try.underlying5
  a5 := Try.isAgg5
  z5 := Try.sizeOf5
  v5 := Try.zeroValue5
  t9 := Try.underlying9
  a9 := Try.isAgg9
  z9 := Try.sizeOf9
  v9 := Try.zeroValue9
  t46 := Try.underlying45
  a46 := Try.isAgg45
  z46 := Try.sizeOf45
  v46 := Try.zeroValue45
  t51 := Try.underlying43
  a51 := Try.isAgg43
  z51 := Try.sizeOf43
  v51 := Try.zeroValue43
  t53 := Try.underlying29
  a53 := Try.isAgg29
  z53 := Try.sizeOf29
  v53 := Try.zeroValue29 }
theorem lenU_any (x : Nat) (w : World) (h : x < 18446744073709551616) :
    Calls Try.prog 67 #[.int .u64 (x : Int)] w fun e w' => e = .returned (.int .i64 (blen x : Nat)) ∧ w = w' := by
  refine (Any.bits_Len lenLays (x : Int) w (by omega) (by omega)).mono ?_
  rintro e w' ⟨rfl, rfl⟩
  refine ⟨?_, rfl⟩
  have : Lib.bitLen (x : Int).toNat = blen x := by
    rw [Int.toNat_natCast]
    exact bitLenAux_eq 64 x (by omega)
  rw [this]

theorem ofInt64 (a : Nat) (ha : a < 18446744073709551616) : (BitVec.ofInt 64 (a : Int)).toNat = a := by
  rw [BitVec.ofInt_natCast, BitVec.toNat_ofNat]; exact Nat.mod_eq_of_lt (by omega)
theorem and_one_i64 (a : Nat) (ha : a < 9223372036854775808) : bits .and .i64 (a : Int) 1 = ((a % 2 : Nat) : Int) := by
  show IntKind.i64.wrap ((BitVec.ofInt 64 (a : Int) &&& BitVec.ofInt 64 ((1 : Nat) : Int)).toNat : Int) = _
  rw [BitVec.toNat_and, ofInt64 a (by omega), ofInt64 1 (by omega), Nat.and_one_is_mod, IntKind.wrap_i64]
  omega
theorem bit_i64 (n k : Nat) (hn : n < 9223372036854775808) : bits .and .i64 ((n : Int) / 2 ^ k) 1 = ((n / 2 ^ k % 2 : Nat) : Int) := by
  have e1 : (n : Int) / 2 ^ k = ((n / 2 ^ k : Nat) : Int) := by rw [Int.natCast_ediv, Int.natCast_pow]; rfl
  rw [e1, and_one_i64 _ (Nat.lt_of_le_of_lt (Nat.div_le_self _ _) hn)]

theorem div_two_pow (n k : Nat) : n / 2 ^ (k + 1) = n / 2 ^ k / 2 := by rw [Nat.pow_succ, Nat.div_div_eq_div_mul]
/-- The exponent that is left for the first digits. -/
def top (n : Nat) (t : Int) : Nat := n / 2 ^ (t + 1).toNat
theorem top_end (n : Nat) : top n (-1) = n := by unfold top; simp
theorem top_start (n : Nat) : top n ((blen n : Int) - 1) = 0 := by
  unfold top
  rw [show ((blen n : Int) - 1 + 1).toNat = blen n from by omega]
  exact Nat.div_eq_of_lt (lt_two_pow_blen n)
theorem top_step (n k : Nat) {b : Nat} (hb : n / 2 ^ k % 2 = b) : top n ((k : Int) - 1) = 2 * top n k + b := by
  unfold top
  rw [show ((k : Int) - 1 + 1).toNat = k from by omega, show ((k : Int) + 1).toNat = k + 1 from by omega, div_two_pow]
  omega
theorem top_le (n : Nat) (t : Int) : top n t ≤ n := Nat.div_le_self _ _

set_option maxHeartbeats 400000 in
theorem power_any (x n : Nat) (va : Value) (w : World) (ha : IsN w va x) (hx : len x ≤ 1000000) (hn : n ≤ 64) :
    Calls Try.prog 59 #[va, .int .i64 (n : Int)] w (RetN w (x ^ n)) := by
  have hb7 : blen n ≤ 7 := blen_le (by omega)
  have H1 := Lib.hid (lenU_any n)
  have HS := Lib.hid (top_start n)
  have HLP := Lib.hid (fun e (he : e ≤ 64) => show len (x ^ e) ≤ 65000000 by
    have h1 := len_pow x e
    have h2 : e * len x ≤ 64 * 1000000 := Nat.mul_le_mul he hx
    omega)
  obtain ⟨A, m, c, rfl, ha⟩ := ha
  generalize blen n = bn at *
  go_enter Try.func59, Try.ntmps59
  go_wp2_with fail
  refine (of_any 1 w (by omega)).mono ?_
  rintro e w1 ⟨v1, rfl, o1⟩
  go_wp2_with fail
  refine (H1.out w1 (by omega)).mono ?_
  rintro e w' ⟨rfl, rfl⟩
  go_wp2_with fail
  go_loopw [5, 6] (fun p i wr => ∃ t : Int, i = .int .i64 t ∧ -1 ≤ t ∧ t < 64 ∧ Own wr w.heap.size p (dig (x ^ top n t)) ∧ Below w.heap.size w wr) (fun _ i _ => (intOf i + 1).toNat)
  case atStart => exact ⟨_, rfl, by omega, by omega, by rw [HS.out, Nat.pow_zero]; exact o1.own, o1.below⟩
  case round =>
    obtain ⟨t, rfl, h1, h2, hown, hbe⟩ := hrel
    clear o1
    by_cases ht : t = -1
    · subst ht
      rw [top_end] at hown
      go_wp2_with fail
      go_ret
      exact ⟨_, rfl, hown, hbe⟩
    · obtain ⟨k, rfl⟩ : ∃ k : Nat, t = (k : Int) := ⟨t.toNat, by omega⟩
      clear ht
      have hl1 := top_le n k
      have hSQ := Lib.hid (square_any (x ^ top n k) _ wr (isN_of_own hown rfl) (Nat.le_trans (HLP.out _ (by omega)) (by omega)))
      have hbit := bit_i64 n k (by omega)
      obtain ⟨b, hb⟩ : ∃ b, n / 2 ^ k % 2 = b := ⟨_, rfl⟩
      have hst := top_step n k hb
      have hl2 := top_le n ((k : Int) - 1)
      rw [hb] at hbit
      have hb2 : b < 2 := by omega
      have HST := Lib.hid hst
      rw [pow_even] at hSQ
      have hl3 : 2 * top n k ≤ 64 := by omega
      clear hb hst hl2
      rcases (show b = 0 ∨ b = 1 by omega) with rfl | rfl
      · go_wp2_with fail
        refine hSQ.out.mono ?_
        rintro e w2 ⟨v2, rfl, o2⟩
        go_wp2_with fail
        go_roundw
        case rel => exact ⟨(k : Int) - 1, by go_num, by omega, by omega, by rw [HST.out, Nat.add_zero]; exact o2.own.base_le hbe.size, hbe.trans (o2.below.mono hbe.size)⟩
        case measure => simp [intOf] <;> omega
      · go_wp2_with fail
        refine hSQ.out.mono ?_
        rintro e w2 ⟨v2, rfl, o2⟩
        have hbe2 := hbe.trans (o2.below.mono hbe.size)
        have HM := Lib.hid (mul_any (x ^ (2 * top n k)) x v2 _ w2 o2.isN ⟨A, m, c, rfl, ha.mono hbe2⟩ (Nat.le_trans (HLP.out _ hl3) (by omega)) (by omega))
        go_wp2_with fail
        refine HM.out.mono ?_
        rintro e w3 ⟨v3, rfl, o3⟩
        go_wp2_with fail
        go_roundw
        case rel => exact ⟨(k : Int) - 1, by go_num, by omega, by omega, by rw [HST.out, ← pow_odd]; exact o3.own.base_le hbe2.size, hbe2.trans (o3.below.mono hbe2.size)⟩
        case measure => simp [intOf] <;> omega

end Go.Proofs.Ytdlojigbphhjaaa
