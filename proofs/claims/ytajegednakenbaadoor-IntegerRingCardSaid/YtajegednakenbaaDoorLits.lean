/- Literals that stand for numbers. -/
import Derived.Test.YtajegednakenbaaDoorNatA
namespace Go.Proofs.YtajegednakenbaaDoor
open Go.RowKit
set_option linter.unusedVariables false
set_option linter.unusedSimpArgs false

theorem isN_of_own {w : World} {base : Nat} {v : Value} {l : List Nat} {x : Nat} (h : Own w base v l) (e : l = dig x) : IsN w v x := by
  subst e
  obtain ⟨A, c, e, hs, _⟩ := h.form
  exact ⟨A, _, c, e, hs⟩
theorem dig_one {x : Nat} (h0 : 0 < x) (h : x < 4294967296) : dig x = [x] := by
  rw [dig_pos h0, Nat.mod_eq_of_lt (show x < W32 from h), Nat.div_eq_of_lt (show x < W32 from h), dig_zero]
theorem isN_lit (w : World) (x : Nat) (h0 : 0 < x) (h : x < 4294967296) : IsN (w.alloc (.cells #[.int .u32 (x : Int)] 34)) (.slice (some ⟨w.heap.size, 0, none⟩) 1 1) x :=
  isN_of_own (base := w.heap.size) (l := [x]) ⟨World.ownsRow_lit w #[.int .u32 (x : Int)] 1 (Nat.le_refl _) (by unfold maxLen; omega) rfl, small_one h⟩ (dig_one h0 h).symm
theorem isN_lit2 (w : World) (x y : Nat) (h0 : 0 < y) (hx : x < 4294967296) (hy : y < 4294967296) : IsN (w.alloc (.cells #[.int .u32 (x : Int), .int .u32 (y : Int)] 34)) (.slice (some ⟨w.heap.size, 0, none⟩) 2 2) (x + 4294967296 * y) := by
  refine isN_of_own (base := w.heap.size) (own_two w x y hx hy) ?_
  have h1 : 0 < x + 4294967296 * y := by omega
  rw [dig_pos h1, show (x + 4294967296 * y) % W32 = x from by unfold W32; omega, show (x + 4294967296 * y) / W32 = y from by unfold W32; omega, dig_one h0 hy]
theorem isN_litI (w : World) (i : Int) (x : Nat) (e : i = x) (h0 : 0 < x) (h : x < 4294967296) : IsN (w.alloc (.cells #[.int .u32 i] 34)) (.slice (some ⟨w.heap.size, 0, none⟩) 1 1) x := by
  subst e
  exact isN_lit w x h0 h
theorem isN_litI2 (w : World) (i j : Int) (x y : Nat) (e1 : i = x) (e2 : j = y) (h0 : 0 < y) (hx : x < 4294967296) (hy : y < 4294967296) : IsN (w.alloc (.cells #[.int .u32 i, .int .u32 j] 34)) (.slice (some ⟨w.heap.size, 0, none⟩) 2 2) (x + 4294967296 * y) := by
  subst e1; subst e2
  exact isN_lit2 w x y h0 hx hy
theorem len_le1 {x : Nat} (h : x < 4294967296) : len x ≤ 1 := len_le (by unfold W32; omega)
theorem len_le2 {x : Nat} (h : x < 18446744073709551616) : len x ≤ 2 := len_le (by unfold W32; omega)

end Go.Proofs.YtajegednakenbaaDoor
