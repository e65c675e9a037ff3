/- Walks: nat.Low, Bit, Zeros. -/
import Derived.Test.YtdlojigbphhjaaaNatF
import Derived.Test.YtdlojigbphhjaaaBits
import Derived.Test.YtdlojigbphhjaaaNBits
import Derived.RegionTactic
import Derived.ChangeAlike
namespace Go.Proofs.Ytdlojigbphhjaaa
open Go.RowKit

def ZerosTo (x j : Nat) : Prop := ∀ i, i < j → nth (dig x) i = 0

theorem and_mask {u l : Nat} (hu : u < 4294967296) (hl : l < 32) : bits .and .u32 (u : Int) (((2 : Int) ^ l - 1) % 4294967296) = ((u % 2 ^ l : Nat) : Int) := by
  have h1 : 2 ^ l < 4294967296 := Nat.pow_lt_pow_right (a := 2) (by omega) hl
  have h2 : 0 < 2 ^ l := Nat.pow_pos (by omega)
  have e : ((2 : Int) ^ l - 1) % 4294967296 = ((2 ^ l - 1 : Nat) : Int) := by
    have e1 : (2 : Int) ^ l - 1 = ((2 ^ l - 1 : Nat) : Int) := by rw [Int.natCast_sub h2, Int.natCast_pow]; rfl
    rw [e1]
    omega
  rw [e, u32_and_nat _ _ hu (by omega), Nat.and_two_pow_sub_one_eq_mod]

end Go.Proofs.Ytdlojigbphhjaaa
