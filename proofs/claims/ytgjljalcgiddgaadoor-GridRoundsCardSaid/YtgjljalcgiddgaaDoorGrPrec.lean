/- The laws' precisions: five integers in a row of their own. -/
import Derived.Test.YtgjljalcgiddgaaDoorBaseR
import Derived.Test.YtgjljalcgiddgaaDoorBaseD
import Derived.Deep.RegionHeld3
import Derived.Deep.DrawnRows
namespace Go.Proofs.YtgjljalcgiddgaaDoor
open Go.RowKit
set_option linter.unusedVariables false
set_option linter.unusedSimpArgs false
set_option maxRecDepth 100000
attribute [local go_sem ↓] Go.wp_at_zero Go.wp_at_succ

def RetPrec (w : World) (e : Ending) (w' : World) : Prop := ∃ g N0 N1 N2 N3 N4, e = .returned (.slice (some ⟨g, 0, none⟩) 5 5) ∧ w.heap.size ≤ g ∧ w'.heap[g]? = some (.cells #[.int .i64 N0, .int .i64 N1, .int .i64 N2, .int .i64 N3, .int .i64 N4] 3 (0, 0)) ∧ (∀ N ∈ [N0, N1, N2, N3, N4], -9223372036854775808 ≤ N ∧ N ≤ 9223372036854775807) ∧ Below w.heap.size w w'
theorem row_lt {w : World} {g : Nat} {o : Obj} (h : w.heap[g]? = some o) : g < w.heap.size := by
  rcases Nat.lt_or_ge g w.heap.size with h1 | h1
  · exact h1
  · rw [Array.getElem?_eq_none h1] at h
    cases h
theorem prec_cell {w : World} {g : Nat} {N0 N1 N2 N3 N4 : Int} (h : w.heap[g]? = some (.cells #[.int .i64 N0, .int .i64 N1, .int .i64 N2, .int .i64 N3, .int .i64 N4] 3 (0, 0))) (hN : ∀ N ∈ [N0, N1, N2, N3, N4], -9223372036854775808 ≤ N ∧ N ≤ 9223372036854775807) (t : Nat) (ht : t < 5) : ∃ N : Int, w.cell? ⟨g, t, none⟩ = some (.int .i64 N) ∧ -9223372036854775808 ≤ N ∧ N ≤ 9223372036854775807 := by
  rcases (show t = 0 ∨ t = 1 ∨ t = 2 ∨ t = 3 ∨ t = 4 by omega) with rfl | rfl | rfl | rfl | rfl
  · exact ⟨N0, cell_of_row w g 0 _ _ _ h, hN _ (by simp)⟩
  · exact ⟨N1, cell_of_row w g 1 _ _ _ h, hN _ (by simp)⟩
  · exact ⟨N2, cell_of_row w g 2 _ _ _ h, hN _ (by simp)⟩
  · exact ⟨N3, cell_of_row w g 3 _ _ _ h, hN _ (by simp)⟩
  · exact ⟨N4, cell_of_row w g 4 _ _ _ h, hN _ (by simp)⟩

set_option maxHeartbeats 2000000 in
theorem prec_any (p : Int) (w : World) (h1 : -9223372036854775808 ≤ p) (h2 : p ≤ 9223372036854775807) :
    Calls Tryd.prog 9 #[.int .i64 p] w (RetPrec w) := by
  obtain ⟨r1, hr1⟩ : ∃ r : Nat, p % 60 = (r : Int) := ⟨(p % 60).toNat, by omega⟩
  obtain ⟨r2, hr2⟩ : ∃ r : Nat, p % 1000 = (r : Int) := ⟨(p % 1000).toNat, by omega⟩
  obtain ⟨r3, hr3⟩ : ∃ r : Nat, p % 3 = (r : Int) := ⟨(p % 3).toNat, by omega⟩
  have m1 := fun W => mod_any p 60 W (by omega) (by omega) h1 h2
  have m2 := fun W => mod_any p 1000 W (by omega) (by omega) h1 h2
  have m3 := fun W => mod_any p 3 W (by omega) (by omega) h1 h2
  rw [hr1] at m1
  rw [hr2] at m2
  rw [hr3] at m3
  have M1 := Lib.hid m1
  have M2 := Lib.hid m2
  have M3 := Lib.hid m3
  have b1 : r1 < 60 := by omega
  have b2 : r2 < 1000 := by omega
  have b3 : r3 < 3 := by omega
  have w1 : IntKind.i64.wrap ((r1 : Int) - 20) = (r1 : Int) - 20 := by rw [IntKind.wrap_i64]; omega
  have w2 : IntKind.i64.wrap (-2049 + (r3 : Int)) = -2049 + (r3 : Int) := by rw [IntKind.wrap_i64]; omega
  have w3 : IntKind.i64.wrap (8191 + (r3 : Int)) = 8191 + (r3 : Int) := by rw [IntKind.wrap_i64]; omega
  clear m1 m2 m3 hr1 hr2 hr3
  go_enter Tryd.func9, Tryd.ntmps9
  go_wp2_with fail
  refine (M1.out _).mono ?_
  rintro e9 w' ⟨rfl, rfl⟩
  go_wp2_with fail
  refine (M2.out _).mono ?_
  rintro e9 w' ⟨rfl, rfl⟩
  go_wp2_with fail
  refine (M3.out _).mono ?_
  rintro e9 w' ⟨rfl, rfl⟩
  go_wp2_with fail
  refine (M3.out _).mono ?_
  rintro e9 w' ⟨rfl, rfl⟩
  go_wp2_with fail
  go_ret
  refine ⟨_, _, _, _, _, _, rfl, Nat.le_refl _, heap_alloc_new w _, ?_, (Below.refl _ _).alloc (Nat.le_refl _) _⟩
  intro N hN
  simp only [List.mem_cons, List.not_mem_nil, or_false] at hN
  rcases hN with rfl | rfl | rfl | rfl | rfl <;> omega

end Go.Proofs.YtgjljalcgiddgaaDoor
