/- Three integers appended to a row of five that is full, in a statement that draws its order. -/
import Derived.Test.YtgjljalcgiddgaaDoorGrPrec
import Derived.Deep.RegionLawGrows
import Derived.Laws.OwnMore
import Derived.Lib.SmallJoins
namespace Go.Proofs.YtgjljalcgiddgaaDoor
open Go.RowKit
set_option linter.unusedVariables false
set_option linter.unusedSimpArgs false
set_option maxRecDepth 100000
attribute [local go_sem ↓] Go.wp_at_zero Go.wp_at_succ

theorem info_int8 : (Tryd.prog.info? 3).map (fun i => (i.zero, i.size, i.bytes)) = some (some (.int .i64 0), 1, 8) := by kernel_rfl
theorem add_at (g j : Nat) : (Addr.add ⟨g, 0, none⟩ j) = ⟨g, j, none⟩ := by
  by_cases h0 : j = 0 <;> simp [Addr.add, h0]
theorem step_app3 {w : World} {ops : Array Oper} {o : Oper} {a : Act} {K : Act → World → Prop} {Q : Exit → Act → World → Prop} {E : Prop} (hgd : o.guard = none) (s x : Operand)
    (ho : o.op = .call { callee := .builtin .append, args := #[s, x], argTypes := #[30, 30] })
    (g h : Nat) (N0 N1 N2 N3 N4 P0 P1 P2 : Int) (hs : a.eval s = .slice (some ⟨g, 0, none⟩) 5 5) (hrow : w.heap[g]? = some (.cells #[.int .i64 N0, .int .i64 N1, .int .i64 N2, .int .i64 N3, .int .i64 N4] 3 (0, 0)))
    (hx : a.eval x = .slice (some ⟨h, 0, none⟩) 3 3) (hrow2 : w.heap[h]? = some (.cells #[.int .i64 P0, .int .i64 P1, .int .i64 P2] 3 (0, 0)))
    (hK : ∀ gs cap w', gs < w'.heap.size → (∀ t, t < 8 → w'.cell? ⟨gs, t, none⟩ = [.int .i64 N0, .int .i64 N1, .int .i64 N2, .int .i64 N3, .int .i64 N4, .int .i64 P0, .int .i64 P1, .int .i64 P2][t]?) → Below w.heap.size w w' → K (a.put o.dst (.slice (some ⟨gs, 0, none⟩) 8 cap)) w') :
    if Region.wanted o (yielded ops a.tmps) = true then Oper.wp Tryd.prog o a w K Q else E := by
  obtain ⟨i0, hi, hz0, hz1, hz2⟩ := info_parts info_int8
  refine step_append_grows hgd s x 30 ho 3 i0 (.int .i64 0) 1 8 Tryd.underlying30 hi hz0 hz1 hz2 rfl (by decide) (some ⟨g, 0, none⟩) 5 5 [.int .i64 N0, .int .i64 N1, .int .i64 N2, .int .i64 N3, .int .i64 N4] hs (by simp) rfl ?_ ⟨h, 0, none⟩ 3 3 [.int .i64 P0, .int .i64 P1, .int .i64 P2] hx rfl ?_ ?_ (by omega) (by unfold maxLen; omega) (by omega) ?_
  · intro b hb j u hj
    obtain rfl : b = ⟨g, 0, none⟩ := by simpa using hb.symm
    rw [add_at, cell_of_row w g j _ _ _ hrow, List.getElem?_toArray]
    exact hj
  · intro j u hj
    rw [add_at, cell_of_row w h j _ _ _ hrow2, List.getElem?_toArray]
    exact hj
  · intro u hu
    simp only [List.mem_cons, List.not_mem_nil, or_false] at hu
    rcases hu with rfl | rfl | rfl <;> rfl
  · intro v' w' hown hgrow
    obtain ⟨gs, cap, rfl⟩ := Go.Joins.ownsRow_form hown (by omega)
    have hc : ∀ t, t < 8 → w'.cell? ⟨gs, t, none⟩ = [.int .i64 N0, .int .i64 N1, .int .i64 N2, .int .i64 N3, .int .i64 N4, .int .i64 P0, .int .i64 P1, .int .i64 P2][t]? := fun t ht => hown.cellAt t (by omega)
    exact hK gs cap w' (World.block_lt_of_cell? w' ⟨gs, 0, none⟩ (hc 0 (by omega))) hc ((Below.refl _ _).grown hgrow (Nat.le_refl _) (fun k hk => by cases hk))
theorem app_cells {w : World} {g : Nat} {N0 N1 N2 N3 N4 P0 P1 P2 : Int} (h : ∀ t, t < 8 → w.cell? ⟨g, t, none⟩ = [.int .i64 N0, .int .i64 N1, .int .i64 N2, .int .i64 N3, .int .i64 N4, .int .i64 P0, .int .i64 P1, .int .i64 P2][t]?) (hN : ∀ N ∈ [N0, N1, N2, N3, N4], -9223372036854775808 ≤ N ∧ N ≤ 9223372036854775807) (hP : ∀ N ∈ [P0, P1, P2], -9223372036854775808 ≤ N ∧ N ≤ 9223372036854775807) (t : Nat) (ht : t < 8) : ∃ N : Int, w.cell? ⟨g, t, none⟩ = some (.int .i64 N) ∧ -9223372036854775808 ≤ N ∧ N ≤ 9223372036854775807 := by
  rcases (show t = 0 ∨ t = 1 ∨ t = 2 ∨ t = 3 ∨ t = 4 ∨ t = 5 ∨ t = 6 ∨ t = 7 by omega) with rfl | rfl | rfl | rfl | rfl | rfl | rfl | rfl
  · exact ⟨N0, h 0 ht, hN _ (by simp)⟩
  · exact ⟨N1, h 1 ht, hN _ (by simp)⟩
  · exact ⟨N2, h 2 ht, hN _ (by simp)⟩
  · exact ⟨N3, h 3 ht, hN _ (by simp)⟩
  · exact ⟨N4, h 4 ht, hN _ (by simp)⟩
  · exact ⟨P0, h 5 ht, hP _ (by simp)⟩
  · exact ⟨P1, h 6 ht, hP _ (by simp)⟩
  · exact ⟨P2, h 7 ht, hP _ (by simp)⟩

end Go.Proofs.YtgjljalcgiddgaaDoor
