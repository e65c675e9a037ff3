/- Walks: bits.Len (by the library's contract), product.Power. -/
import Derived.Test.YtckomgehfpiijaaProdA
import Derived.Test.YtckomgehfpiijaaLen32
import Derived.Test.YtckomgehfpiijaaLits
namespace Go.Proofs.Ytckomgehfpiijaa
open Go.RowKit

theorem ofInt64 (a : Nat) (ha : a < 18446744073709551616) : (BitVec.ofInt 64 (a : Int)).toNat = a := by
  rw [BitVec.ofInt_natCast, BitVec.toNat_ofNat]; exact Nat.mod_eq_of_lt (by omega)
theorem and_one_i64 (a : Nat) (ha : a < 9223372036854775808) : bits .and .i64 (a : Int) 1 = ((a % 2 : Nat) : Int) := by
  show IntKind.i64.wrap ((BitVec.ofInt 64 (a : Int) &&& BitVec.ofInt 64 ((1 : Nat) : Int)).toNat : Int) = _
  rw [BitVec.toNat_and, ofInt64 a (by omega), ofInt64 1 (by omega), Nat.and_one_is_mod, IntKind.wrap_i64]
  omega
theorem bit_i64 (n k : Nat) (hn : n < 9223372036854775808) : bits .and .i64 ((n : Int) / 2 ^ k) 1 = ((n / 2 ^ k % 2 : Nat) : Int) := by
  have e1 : (n : Int) / 2 ^ k = ((n / 2 ^ k : Nat) : Int) := by rw [Int.natCast_ediv, Int.natCast_pow]; rfl
  rw [e1, and_one_i64 _ (Nat.lt_of_le_of_lt (Nat.div_le_self _ _) hn)]

theorem div_two_pow (n k : Nat) : n / 2 ^ (k + 1) = n / 2 ^ k / 2 := by rw [Nat.pow_succ, Nat.div_div_eq_div_mul]
/-- The exponent that is left for the first digits. -/
def top (n : Nat) (t : Int) : Nat := n / 2 ^ (t + 1).toNat
theorem top_end (n : Nat) : top n (-1) = n := by unfold top; simp
theorem top_start (n : Nat) : top n ((blen n : Int) - 1) = 0 := by
  unfold top
  rw [show ((blen n : Int) - 1 + 1).toNat = blen n from by omega]
  exact Nat.div_eq_of_lt (lt_two_pow_blen n)
theorem top_step (n k : Nat) {b : Nat} (hb : n / 2 ^ k % 2 = b) : top n ((k : Int) - 1) = 2 * top n k + b := by
  unfold top
  rw [show ((k : Int) - 1 + 1).toNat = k from by omega, show ((k : Int) + 1).toNat = k + 1 from by omega, div_two_pow]
  omega
theorem top_le (n : Nat) (t : Int) : top n t ≤ n := Nat.div_le_self _ _

end Go.Proofs.Ytckomgehfpiijaa
