/- Rows of three dyadics of an interval. -/
import Derived.Test.YthfabjpbdgieoaaGreatDoorRdX
namespace Go.Proofs.YthfabjpbdgieoaaGreatDoor
open Go.RowKit
set_option linter.unusedVariables false
set_option linter.unusedSimpArgs false
set_option maxRecDepth 100000
attribute [local go_sem ↓] Go.wp_at_zero Go.wp_at_succ

def El (lo hi : Rat) (m e : Int) : Prop := lo ≤ dq m e ∧ dq m e ≤ hi ∧ zl m ≤ 40 ∧ (-64 ≤ e ∧ e ≤ 2880) ∧ Dv m e
theorem plainD_3 (m1 e1 m2 e2 m3 e3 : Int) (A1 A2 A3 : Option Addr) (c1 c2 c3 : Nat) : Plain #[.bool (ng m1), .slice A1 (zl m1) c1, .int .i64 e1, .bool (ng m2), .slice A2 (zl m2) c2, .int .i64 e2, .bool (ng m3), .slice A3 (zl m3) c3, .int .i64 e3] := fun j x => by
  match j with
  | 0 => simp
  | 1 => simp
  | 2 => simp
  | 3 => simp
  | 4 => simp
  | 5 => simp
  | 6 => simp
  | 7 => simp
  | 8 => simp
  | j + 9 => simp
theorem row3_cell {w : World} {g : Nat} {T : TypeId} {lo hi : Rat} {m1 e1 m2 e2 m3 e3 : Int} {A1 A2 A3 : Option Addr} {c1 c2 c3 : Nat} (h : Var w g T #[.bool (ng m1), .slice A1 (zl m1) c1, .int .i64 e1, .bool (ng m2), .slice A2 (zl m2) c2, .int .i64 e2, .bool (ng m3), .slice A3 (zl m3) c3, .int .i64 e3]) (i1 : IsN w (.slice A1 (zl m1) c1) m1.natAbs) (i2 : IsN w (.slice A2 (zl m2) c2) m2.natAbs) (i3 : IsN w (.slice A3 (zl m3) c3) m3.natAbs) (h1 : El lo hi m1 e1) (h2 : El lo hi m2 e2) (h3 : El lo hi m3 e3) (t : Nat) (ht : t < 3) : ∃ m e A c, w.cell? ⟨g, t * 3, none⟩ = some (.bool (ng m)) ∧ w.cell? ⟨g, t * 3 + 1, none⟩ = some (.slice A (zl m) c) ∧ w.cell? ⟨g, t * 3 + 2, none⟩ = some (.int .i64 e) ∧ IsN w (.slice A (zl m) c) m.natAbs ∧ El lo hi m e := by
  rcases (show t = 0 ∨ t = 1 ∨ t = 2 by omega) with rfl | rfl | rfl
  · exact ⟨m1, e1, A1, c1, h.cell 0, h.cell 1, h.cell 2, i1, h1⟩
  · exact ⟨m2, e2, A2, c2, h.cell 3, h.cell 4, h.cell 5, i2, h2⟩
  · exact ⟨m3, e3, A3, c3, h.cell 6, h.cell 7, h.cell 8, i3, h3⟩
theorem isD_b8 {w : World} {s : Value} {m e : Int} {b : Bool} (hb : ng m = b) (h : IsN w s m.natAbs) : IsD w (.agg #[.bool b, s, .int .i64 e]) m e := by
  subst hb; exact isD_n h


end Go.Proofs.YthfabjpbdgieoaaGreatDoor
