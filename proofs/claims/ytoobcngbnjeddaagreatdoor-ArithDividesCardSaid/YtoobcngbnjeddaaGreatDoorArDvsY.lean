/- Quotients by short intervals: program and reference give the same. -/
import Derived.Test.YtoobcngbnjeddaaGreatDoorArInY
import Derived.Test.YtoobcngbnjeddaaGreatDoorRefArDi
namespace Go.Proofs.YtoobcngbnjeddaaGreatDoor
open Go.RowKit
set_option linter.unusedVariables false
set_option linter.unusedSimpArgs false
set_option maxRecDepth 100000
attribute [local go_sem ↓] Go.wp_at_zero Go.wp_at_succ

def ElI (m e n f : Int) : Prop := (zl m ≤ 25 ∧ (-3000 ≤ e ∧ e ≤ 3000)) ∧ (zl n ≤ 25 ∧ (-3000 ≤ f ∧ f ≤ 3000)) ∧ dcm m e n f ≤ 0
theorem plainJ_3 (m1 e1 n1 f1 : Int) (A1 B1 : Option Addr) (c1 d1 : Nat) (m2 e2 n2 f2 : Int) (A2 B2 : Option Addr) (c2 d2 : Nat) (m3 e3 n3 f3 : Int) (A3 B3 : Option Addr) (c3 d3 : Nat) : Plain #[.bool (ng m1), .slice A1 (zl m1) c1, .int .i64 e1, .bool (ng n1), .slice B1 (zl n1) d1, .int .i64 f1, .bool (ng m2), .slice A2 (zl m2) c2, .int .i64 e2, .bool (ng n2), .slice B2 (zl n2) d2, .int .i64 f2, .bool (ng m3), .slice A3 (zl m3) c3, .int .i64 e3, .bool (ng n3), .slice B3 (zl n3) d3, .int .i64 f3] := fun j x => by
  match j with
  | 0 => simp
  | 1 => simp
  | 2 => simp
  | 3 => simp
  | 4 => simp
  | 5 => simp
  | 6 => simp
  | 7 => simp
  | 8 => simp
  | 9 => simp
  | 10 => simp
  | 11 => simp
  | 12 => simp
  | 13 => simp
  | 14 => simp
  | 15 => simp
  | 16 => simp
  | 17 => simp
  | j + 18 => simp
theorem rowJ3_cell {w : World} {g : Nat} {T : TypeId} {m1 e1 n1 f1 : Int} {A1 B1 : Option Addr} {c1 d1 : Nat} {m2 e2 n2 f2 : Int} {A2 B2 : Option Addr} {c2 d2 : Nat} {m3 e3 n3 f3 : Int} {A3 B3 : Option Addr} {c3 d3 : Nat} (h : Var w g T #[.bool (ng m1), .slice A1 (zl m1) c1, .int .i64 e1, .bool (ng n1), .slice B1 (zl n1) d1, .int .i64 f1, .bool (ng m2), .slice A2 (zl m2) c2, .int .i64 e2, .bool (ng n2), .slice B2 (zl n2) d2, .int .i64 f2, .bool (ng m3), .slice A3 (zl m3) c3, .int .i64 e3, .bool (ng n3), .slice B3 (zl n3) d3, .int .i64 f3]) (i1 : IsN w (.slice A1 (zl m1) c1) m1.natAbs) (j1 : IsN w (.slice B1 (zl n1) d1) n1.natAbs) (i2 : IsN w (.slice A2 (zl m2) c2) m2.natAbs) (j2 : IsN w (.slice B2 (zl n2) d2) n2.natAbs) (i3 : IsN w (.slice A3 (zl m3) c3) m3.natAbs) (j3 : IsN w (.slice B3 (zl n3) d3) n3.natAbs) (h1 : ElI m1 e1 n1 f1) (h2 : ElI m2 e2 n2 f2) (h3 : ElI m3 e3 n3 f3) (t : Nat) (ht : t < 3) : ∃ m e n f A c B d, w.cell? ⟨g, t * 6, none⟩ = some (.bool (ng m)) ∧ w.cell? ⟨g, t * 6 + 1, none⟩ = some (.slice A (zl m) c) ∧ w.cell? ⟨g, t * 6 + 2, none⟩ = some (.int .i64 e) ∧ w.cell? ⟨g, t * 6 + 3, none⟩ = some (.bool (ng n)) ∧ w.cell? ⟨g, t * 6 + 4, none⟩ = some (.slice B (zl n) d) ∧ w.cell? ⟨g, t * 6 + 5, none⟩ = some (.int .i64 f) ∧ IsN w (.slice A (zl m) c) m.natAbs ∧ IsN w (.slice B (zl n) d) n.natAbs ∧ ElI m e n f := by
  rcases (show t = 0 ∨ t = 1 ∨ t = 2 by omega) with rfl | rfl | rfl
  · exact ⟨m1, e1, n1, f1, A1, c1, B1, d1, h.cell 0, h.cell 1, h.cell 2, h.cell 3, h.cell 4, h.cell 5, i1, j1, h1⟩
  · exact ⟨m2, e2, n2, f2, A2, c2, B2, d2, h.cell 6, h.cell 7, h.cell 8, h.cell 9, h.cell 10, h.cell 11, i2, j2, h2⟩
  · exact ⟨m3, e3, n3, f3, A3, c3, B3, d3, h.cell 12, h.cell 13, h.cell 14, h.cell 15, h.cell 16, h.cell 17, i3, j3, h3⟩
set_option maxHeartbeats 1000000 in
theorem divs_ok {m e n f : Int} (lm : zl m ≤ 6) (ln : zl n ≤ 6) (he : -60 ≤ e ∧ e ≤ 252) (hf : -60 ≤ f ∧ f ≤ 252) (le1 : dcm m e n f ≤ 0) {w : World} (hT : Tab w) {m5 e5 n5 f5 k : Int} (h : ElI m5 e5 n5 f5) (hk1 : -9223372036854775808 ≤ k) (hk2 : k ≤ 9223372036854775807) : ∃ M E N G r : Int, (zl M ≤ 400 ∧ (-10000 ≤ E ∧ E ≤ 10000)) ∧ (zl N ≤ 400 ∧ (-10000 ≤ G ∧ G ≤ 10000)) ∧ (∀ v u W, IsI W v m e n f → IsI W u m5 e5 n5 f5 → Below w.heap.size w W → Calls Tryz.prog 23 #[v, u, .int .i64 k] W (RetIE W M E N G r)) ∧ (∀ v u W, IsI W v m e n f → IsI W u m5 e5 n5 f5 → Calls Tryz.prog 24 #[v, u, .int .i64 k] W (RetIE W M E N G r)) := by
  obtain ⟨⟨a1, a2⟩, ⟨b1, b2⟩, c⟩ := h
  obtain ⟨M, E, N, G, r, fx, z1, z2, _⟩ := RetDv.fix m e n f m5 e5 n5 f5 k
  refine ⟨M, E, N, G, r, z1, z2, fun v u W h1 h2 hW => ?_, fun v u W h1 h2 => ?_⟩
  · rw [← fx W]
    exact adiv_any m e n f m5 e5 n5 f5 k v u W h1 h2 (by omega) (by omega) a1 b1 (by omega) (by omega) a2 b2 le1 c hk1 hk2 (hT.mono hW)
  · rw [← fx W]
    exact r11div_any m e n f m5 e5 n5 f5 k v u W h1 h2 (by omega) (by omega) a1 b1 (by omega) (by omega) a2 b2 hk1 hk2


end Go.Proofs.YtoobcngbnjeddaaGreatDoor
