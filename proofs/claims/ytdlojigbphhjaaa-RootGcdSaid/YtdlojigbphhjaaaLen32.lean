/- math/bits: Len32 (by the library's contract). -/
import Derived.Test.YtdlojigbphhjaaaWords
import Derived.Shelf.Small.Bits
namespace Go.Proofs.Ytdlojigbphhjaaa
open Go.RowKit

def len32Ren : Go.Shelf.Ren := ⟨fun | 128 => 45 | n => n, fun | 51 => 43 | 3 => 3 | 4 => 4 | 46 => 45 | 5 => 5 | 9 => 9 | n => n, fun | n => n⟩
theorem len32Lays : Go.Proofs.Lays.n128 Try.prog len32Ren := {
  mixed := by kernel_rfl
  f128 := Try.func45.trans (congrArg some (by kernel_rfl))
  t3 := Try.underlying3
  a3 := Try.isAgg3
  z3 := Try.sizeOf3
  v3 := Try.zeroValue3
  t4 := Try.underlying4
  a4 := Try.isAgg4
  z4 := Try.sizeOf4
  v4 := Try.zeroValue4
  t5 := Try.underlying5
  a5 := Try.isAgg5
  z5 := Try.sizeOf5
  v5 := Try.zeroValue5
  t9 := Try.underlying9
  a9 := Try.isAgg9
  z9 := Try.sizeOf9
  v9 := Try.zeroValue9
  t46 := Try.underlying45
  a46 := Try.isAgg45
  z46 := Try.sizeOf45
  v46 := Try.zeroValue45
  t51 := Try.underlying43
  a51 := Try.isAgg43
  z51 := Try.sizeOf43
  v51 := Try.zeroValue43 }

theorem bitLenAux_eq (f x : Nat) (h : x < 2 ^ f) : Lib.bitLenAux f x = blen x := by
  induction f generalizing x with
  | zero =>
    have : x = 0 := by simpa using h
    subst this
    rfl
  | succ f ih =>
    unfold Lib.bitLenAux
    by_cases h0 : x = 0
    · rw [if_pos h0, h0]; rfl
    · rw [if_neg h0, ih (x / 2) (by rw [Nat.pow_succ] at h; omega)]
      exact (blen_half (Nat.pos_of_ne_zero h0)).symm

theorem len32_any (x : Nat) (w : World) (h : x < 4294967296) :
    Calls Try.prog 45 #[.int .u32 (x : Int)] w fun e w' => e = .returned (.int .i64 (blen x : Nat)) ∧ w = w' := by
  refine (Any.bits_Len32 len32Lays (x : Int) w (by omega) (by omega)).mono ?_
  rintro e w' ⟨rfl, rfl⟩
  refine ⟨?_, rfl⟩
  have : Lib.bitLen (x : Int).toNat = blen x := by
    rw [Int.toNat_natCast]
    exact bitLenAux_eq 64 x (by omega)
  rw [this]

end Go.Proofs.Ytdlojigbphhjaaa
