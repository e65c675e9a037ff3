/- math/bits: Len32 (by the library's contract), TrailingZeros32 (walked). -/
import Derived.Test.YtklbkgcjbekdfaaDoorWords
import Derived.Shelf.Small.Bits
import Derived.Shelf.Spec.TrailingZeros
namespace Go.Proofs.YtklbkgcjbekdfaaDoor
open Go.RowKit

def len32Ren : Go.Shelf.Ren := ⟨fun | 128 => 44 | n => n, fun | 51 => 44 | 3 => 3 | 4 => 4 | 46 => 46 | 5 => 5 | 9 => 9 | n => n, fun | n => n⟩
theorem len32Lays : Go.Proofs.Lays.n128 Tryd.prog len32Ren := {
  mixed := by kernel_rfl
  f128 := Tryd.func44.trans (congrArg some (by kernel_rfl))
  t3 := Tryd.underlying3
  a3 := Tryd.isAgg3
  z3 := Tryd.sizeOf3
  v3 := Tryd.zeroValue3
  t4 := Tryd.underlying4
  a4 := Tryd.isAgg4
  z4 := Tryd.sizeOf4
  v4 := Tryd.zeroValue4
  t5 := Tryd.underlying5
  a5 := Tryd.isAgg5
  z5 := Tryd.sizeOf5
  v5 := Tryd.zeroValue5
  t9 := Tryd.underlying9
  a9 := Tryd.isAgg9
  z9 := Tryd.sizeOf9
  v9 := Tryd.zeroValue9
  t46 := Tryd.underlying46
  a46 := Tryd.isAgg46
  z46 := Tryd.sizeOf46
  v46 := Tryd.zeroValue46
  t51 := Tryd.underlying44
  a51 := Tryd.isAgg44
  z51 := Tryd.sizeOf44
  v51 := Tryd.zeroValue44 }

theorem bitLenAux_eq (f x : Nat) (h : x < 2 ^ f) : Lib.bitLenAux f x = blen x := by
  induction f generalizing x with
  | zero =>
    have : x = 0 := by simpa using h
    subst this
    rfl
  | succ f ih =>
    unfold Lib.bitLenAux
    by_cases h0 : x = 0
    · rw [if_pos h0, h0]; rfl
    · rw [if_neg h0, ih (x / 2) (by rw [Nat.pow_succ] at h; omega)]
      exact (blen_half (Nat.pos_of_ne_zero h0)).symm

theorem len32_any (x : Nat) (w : World) (h : x < 4294967296) :
    Calls Tryd.prog 44 #[.int .u32 (x : Int)] w fun e w' => e = .returned (.int .i64 (blen x : Nat)) ∧ w = w' := by
  refine (Any.bits_Len32 len32Lays (x : Int) w (by omega) (by omega)).mono ?_
  rintro e w' ⟨rfl, rfl⟩
  refine ⟨?_, rfl⟩
  have : Lib.bitLen (x : Int).toNat = blen x := by
    rw [Int.toNat_natCast]
    exact bitLenAux_eq 64 x (by omega)
  rw [this]

/-- The table of the library lies where its variable lies. -/
def Tab (w : World) : Prop := 0 < w.heap.size ∧ ∀ j, j < Lib.deBruijn32tab.length → w.cell? ⟨0, j, none⟩ = some (.int .u8 (Lib.deBruijn32tab.getD j 0))
theorem Tab.mono {w w' : World} (h : Tab w) (hb : Below w.heap.size w w') : Tab w' :=
  ⟨Nat.lt_of_lt_of_le h.1 hb.size, fun j hj => (hb.cell (p := ⟨0, j, none⟩) h.1).trans (h.2 j hj)⟩

theorem ctzFrom_eq (f x : Nat) (h0 : 0 < x) (h : x < 2 ^ f) : Lib.ctzFrom f x = tz x := by
  obtain ⟨m, hm, _⟩ := Lib.ctzFrom_spec f x h0 h
  have := tz_mul (Lib.ctzFrom f x) m
  rw [← hm] at this
  exact this.symm

theorem tz32_core (x k idx : Nat) (w : World) (hx0 : ((x : Int) == 0) = false)
    (key : bits BinOp.and IntKind.u32 (x : Int) (-(x : Int) % 4294967296) * 125613361 % 4294967296 / 134217728 = (idx : Int))
    (hi : idx < 32) (hk : k < 32) (hcell : w.cell? ⟨0, idx, none⟩ = some (.int .u8 (k : Int))) :
    Calls Tryd.prog 45 #[.int .u32 (x : Int)] w fun e w' => e = .returned (.int .i64 (k : Nat)) ∧ w = w' := by
  go_enter Tryd.func45, Tryd.ntmps45
  go_wp2_with (simp only [key])
  go_ret
  exact ⟨rfl, rfl⟩

theorem tz32_any (x : Nat) (w : World) (hx : x < 4294967296) (h0 : 0 < x) (hT : Tab w) :
    Calls Tryd.prog 45 #[.int .u32 (x : Int)] w fun e w' => e = .returned (.int .i64 (tz x : Nat)) ∧ w = w' := by
  obtain ⟨hlow, hk⟩ := Lib.lowest_bit 32 x (by omega) hx
  obtain ⟨hi, htab⟩ := Lib.deBruijn32_at _ hk
  have hcell := hT.2 _ hi
  rw [htab] at hcell
  have e : Lib.ctz 32 x = tz x := by
    unfold Lib.ctz
    rw [if_neg (by omega), ctzFrom_eq 32 x h0 hx]
  have key := tz32_key x _ hx (by omega) hlow
  rw [e] at key hcell hk hi
  exact tz32_core x _ _ w (by rw [beq_eq_false_iff_ne]; omega) key hi hk hcell

end Go.Proofs.YtklbkgcjbekdfaaDoor
