/- math/bits: TrailingZeros32 (walked). -/
import Derived.Test.YtajegednakenbaaDoorLen32
import Derived.Shelf.Spec.TrailingZeros
namespace Go.Proofs.YtajegednakenbaaDoor
open Go.RowKit
set_option linter.unusedVariables false
set_option linter.unusedSimpArgs false

/-- The table of the library lies where its variable lies. -/
def Tab (w : World) : Prop := 0 < w.heap.size ∧ ∀ j, j < Lib.deBruijn32tab.length → w.cell? ⟨0, j, none⟩ = some (.int .u8 (Lib.deBruijn32tab.getD j 0))
theorem Tab.mono {w w' : World} (h : Tab w) (hb : Below w.heap.size w w') : Tab w' :=
  ⟨Nat.lt_of_lt_of_le h.1 hb.size, fun j hj => (hb.cell (p := ⟨0, j, none⟩) h.1).trans (h.2 j hj)⟩

theorem ctzFrom_eq (f x : Nat) (h0 : 0 < x) (h : x < 2 ^ f) : Lib.ctzFrom f x = tz x := by
  obtain ⟨m, hm, _⟩ := Lib.ctzFrom_spec f x h0 h
  have := tz_mul (Lib.ctzFrom f x) m
  rw [← hm] at this
  exact this.symm

theorem tz32_core (x k idx : Nat) (w : World) (hx0 : ((x : Int) == 0) = false)
    (key : bits BinOp.and IntKind.u32 (x : Int) (-(x : Int) % 4294967296) * 125613361 % 4294967296 / 134217728 = (idx : Int))
    (hi : idx < 32) (hk : k < 32) (hcell : w.cell? ⟨0, idx, none⟩ = some (.int .u8 (k : Int))) :
    Calls Tryd.prog 74 #[.int .u32 (x : Int)] w fun e w' => e = .returned (.int .i64 (k : Nat)) ∧ w = w' := by
  go_enter Tryd.func74, Tryd.ntmps74
  go_wp2_with (simp only [key])
  go_ret
  exact ⟨rfl, rfl⟩

theorem tz32_any (x : Nat) (w : World) (hx : x < 4294967296) (h0 : 0 < x) (hT : Tab w) :
    Calls Tryd.prog 74 #[.int .u32 (x : Int)] w fun e w' => e = .returned (.int .i64 (tz x : Nat)) ∧ w = w' := by
  obtain ⟨hlow, hk⟩ := Lib.lowest_bit 32 x (by omega) hx
  obtain ⟨hi, htab⟩ := Lib.deBruijn32_at _ hk
  have hcell := hT.2 _ hi
  rw [htab] at hcell
  have e : Lib.ctz 32 x = tz x := by
    unfold Lib.ctz
    rw [if_neg (by omega), ctzFrom_eq 32 x h0 hx]
  have key := tz32_key x _ hx (by omega) hlow
  rw [e] at key hcell hk hi
  exact tz32_core x _ _ w (by rw [beq_eq_false_iff_ne]; omega) key hi hk hcell

end Go.Proofs.YtajegednakenbaaDoor
