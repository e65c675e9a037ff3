/- Joined: CoT, RefCoD, RefCoL, CpL, Awake13, CpF, CoS (what the law leans on). -/
import Derived.Test.YtfnklkdbieikeaaGreatDoorBaseJ
import Derived.Test.YtfnklkdbieikeaaGreatDoorRefDivMod
import Derived.Test.YtfnklkdbieikeaaGreatDoorBaseE
import Derived.Test.YtfnklkdbieikeaaGreatDoorBaseV
import Derived.Test.YtfnklkdbieikeaaGreatDoorBaseW
import Derived.Test.YtfnklkdbieikeaaGreatDoorBaseX
import Derived.Test.YtfnklkdbieikeaaGreatDoorJQ1
import Derived.Test.YtfnklkdbieikeaaGreatDoorJQ3
import Derived.Deep.Cut
import Derived.Deep.CutRange
import Derived.Deep.DrawnRows
import Derived.Deep.RegionHeld3
import Derived.Deep.WholeRow
namespace Go.Proofs.YtfnklkdbieikeaaGreatDoor
open Go.RowKit
set_option linter.unusedVariables false
set_option linter.unusedSimpArgs false
set_option maxRecDepth 100000
attribute [local go_sem ↓] Go.wp_at_zero Go.wp_at_succ

/-- A value stands for three intervals. -/
def IsT (w : World) (v : Value) (m1 e1 n1 f1 m2 e2 n2 f2 m3 e3 n3 f3 : Int) : Prop := ∃ s1 t1 s2 t2 s3 t3, v = .agg #[.bool (ng m1), s1, .int .i64 e1, .bool (ng n1), t1, .int .i64 f1, .bool (ng m2), s2, .int .i64 e2, .bool (ng n2), t2, .int .i64 f2, .bool (ng m3), s3, .int .i64 e3, .bool (ng n3), t3, .int .i64 f3] ∧ IsN w s1 m1.natAbs ∧ IsN w t1 n1.natAbs ∧ IsN w s2 m2.natAbs ∧ IsN w t2 n2.natAbs ∧ IsN w s3 m3.natAbs ∧ IsN w t3 n3.natAbs
theorem IsT.form {w : World} {v : Value} {m1 e1 n1 f1 m2 e2 n2 f2 m3 e3 n3 f3 : Int} (h : IsT w v m1 e1 n1 f1 m2 e2 n2 f2 m3 e3 n3 f3) : ∃ A1 c1 B1 d1 A2 c2 B2 d2 A3 c3 B3 d3, v = .agg #[.bool (ng m1), .slice A1 (zl m1) c1, .int .i64 e1, .bool (ng n1), .slice B1 (zl n1) d1, .int .i64 f1, .bool (ng m2), .slice A2 (zl m2) c2, .int .i64 e2, .bool (ng n2), .slice B2 (zl n2) d2, .int .i64 f2, .bool (ng m3), .slice A3 (zl m3) c3, .int .i64 e3, .bool (ng n3), .slice B3 (zl n3) d3, .int .i64 f3] ∧ IsN w (.slice A1 (zl m1) c1) m1.natAbs ∧ IsN w (.slice B1 (zl n1) d1) n1.natAbs ∧ IsN w (.slice A2 (zl m2) c2) m2.natAbs ∧ IsN w (.slice B2 (zl n2) d2) n2.natAbs ∧ IsN w (.slice A3 (zl m3) c3) m3.natAbs ∧ IsN w (.slice B3 (zl n3) d3) n3.natAbs := by
  obtain ⟨s1, t1, s2, t2, s3, t3, r, h1, h2, h3, h4, h5, h6⟩ := h
  obtain ⟨A1, c1, x1⟩ := h1.form
  obtain ⟨B1, d1, x2⟩ := h2.form
  obtain ⟨A2, c2, x3⟩ := h3.form
  obtain ⟨B2, d2, x4⟩ := h4.form
  obtain ⟨A3, c3, x5⟩ := h5.form
  obtain ⟨B3, d3, x6⟩ := h6.form
  subst x1 x2 x3 x4 x5 x6
  exact ⟨A1, c1, B1, d1, A2, c2, B2, d2, A3, c3, B3, d3, r, h1, h2, h3, h4, h5, h6⟩
theorem isT_n {w : World} {s1 t1 s2 t2 s3 t3 : Value} {m1 e1 n1 f1 m2 e2 n2 f2 m3 e3 n3 f3 : Int} (h1 : IsN w s1 m1.natAbs) (h2 : IsN w t1 n1.natAbs) (h3 : IsN w s2 m2.natAbs) (h4 : IsN w t2 n2.natAbs) (h5 : IsN w s3 m3.natAbs) (h6 : IsN w t3 n3.natAbs) : IsT w (.agg #[.bool (ng m1), s1, .int .i64 e1, .bool (ng n1), t1, .int .i64 f1, .bool (ng m2), s2, .int .i64 e2, .bool (ng n2), t2, .int .i64 f2, .bool (ng m3), s3, .int .i64 e3, .bool (ng n3), t3, .int .i64 f3]) m1 e1 n1 f1 m2 e2 n2 f2 m3 e3 n3 f3 := ⟨s1, t1, s2, t2, s3, t3, rfl, h1, h2, h3, h4, h5, h6⟩
theorem plain18 (b1 : Bool) (A1 : Option Addr) (p1 c1 : Nat) (e1 : Int) (b1' : Bool) (B1 : Option Addr) (q1 d1 : Nat) (f1 : Int) (b2 : Bool) (A2 : Option Addr) (p2 c2 : Nat) (e2 : Int) (b2' : Bool) (B2 : Option Addr) (q2 d2 : Nat) (f2 : Int) (b3 : Bool) (A3 : Option Addr) (p3 c3 : Nat) (e3 : Int) (b3' : Bool) (B3 : Option Addr) (q3 d3 : Nat) (f3 : Int) : Plain #[.bool b1, .slice A1 p1 c1, .int .i64 e1, .bool b1', .slice B1 q1 d1, .int .i64 f1, .bool b2, .slice A2 p2 c2, .int .i64 e2, .bool b2', .slice B2 q2 d2, .int .i64 f2, .bool b3, .slice A3 p3 c3, .int .i64 e3, .bool b3', .slice B3 q3 d3, .int .i64 f3] := fun j x => by
  match j with
  | 0 => simp
  | 1 => simp
  | 2 => simp
  | 3 => simp
  | 4 => simp
  | 5 => simp
  | 6 => simp
  | 7 => simp
  | 8 => simp
  | 9 => simp
  | 10 => simp
  | 11 => simp
  | 12 => simp
  | 13 => simp
  | 14 => simp
  | 15 => simp
  | 16 => simp
  | 17 => simp
  | j + 18 => simp
def put18 (w : World) (g : Nat) (x0 x1 x2 x3 x4 x5 x6 x7 x8 x9 x10 x11 x12 x13 x14 x15 x16 x17 : Value) : World := ((((((((((((((((((w.setCell ⟨g, 0, none⟩ x0).setCell ⟨g, 1, none⟩ x1).setCell ⟨g, 2, none⟩ x2).setCell ⟨g, 3, none⟩ x3).setCell ⟨g, 4, none⟩ x4).setCell ⟨g, 5, none⟩ x5).setCell ⟨g, 6, none⟩ x6).setCell ⟨g, 7, none⟩ x7).setCell ⟨g, 8, none⟩ x8).setCell ⟨g, 9, none⟩ x9).setCell ⟨g, 10, none⟩ x10).setCell ⟨g, 11, none⟩ x11).setCell ⟨g, 12, none⟩ x12).setCell ⟨g, 13, none⟩ x13).setCell ⟨g, 14, none⟩ x14).setCell ⟨g, 15, none⟩ x15).setCell ⟨g, 16, none⟩ x16).setCell ⟨g, 17, none⟩ x17)
section
variable {w0 w : World} {ns : List (Value × Nat)} {zs : List (Value × Int)} {qs : List (Value × Int × Nat)} {bs : List (Nat × TypeId × Array Value)}
theorem Lq.varT (h : Lq w0 w ns zs qs bs) (g : Nat) (hg : g = w.heap.size) (b1 : Bool) (A1 : Option Addr) (p1 c1 : Nat) (e1 : Int) (b1' : Bool) (B1 : Option Addr) (q1 d1 : Nat) (f1 : Int) (b2 : Bool) (A2 : Option Addr) (p2 c2 : Nat) (e2 : Int) (b2' : Bool) (B2 : Option Addr) (q2 d2 : Nat) (f2 : Int) (b3 : Bool) (A3 : Option Addr) (p3 c3 : Nat) (e3 : Int) (b3' : Bool) (B3 : Option Addr) (q3 d3 : Nat) (f3 : Int) : Lq w0 (w.alloc (.cells #[.bool b1, .slice A1 p1 c1, .int .i64 e1, .bool b1', .slice B1 q1 d1, .int .i64 f1, .bool b2, .slice A2 p2 c2, .int .i64 e2, .bool b2', .slice B2 q2 d2, .int .i64 f2, .bool b3, .slice A3 p3 c3, .int .i64 e3, .bool b3', .slice B3 q3 d3, .int .i64 f3] 32)) ns zs qs ((g, 32, #[.bool b1, .slice A1 p1 c1, .int .i64 e1, .bool b1', .slice B1 q1 d1, .int .i64 f1, .bool b2, .slice A2 p2 c2, .int .i64 e2, .bool b2', .slice B2 q2 d2, .int .i64 f2, .bool b3, .slice A3 p3 c3, .int .i64 e3, .bool b3', .slice B3 q3 d3, .int .i64 f3]) :: bs) := h.var g hg _ _ (plain18 _ _ _ _ _ _ _ _ _ _ _ _ _ _ _ _ _ _ _ _ _ _ _ _ _ _ _ _ _ _ )
set_option maxHeartbeats 2000000 in
theorem Lq.putT {g : Nat} {x0 x1 x2 x3 x4 x5 x6 x7 x8 x9 x10 x11 x12 x13 x14 x15 x16 x17 : Value} (h : Lq w0 w ns zs qs ((g, 32, #[x0, x1, x2, x3, x4, x5, x6, x7, x8, x9, x10, x11, x12, x13, x14, x15, x16, x17]) :: bs)) (hg : w0.heap.size ≤ g) (hd : ∀ p ∈ bs, p.1 ≠ g) (b1 : Bool) (A1 : Option Addr) (p1 c1 : Nat) (e1 : Int) (b1' : Bool) (B1 : Option Addr) (q1 d1 : Nat) (f1 : Int) (b2 : Bool) (A2 : Option Addr) (p2 c2 : Nat) (e2 : Int) (b2' : Bool) (B2 : Option Addr) (q2 d2 : Nat) (f2 : Int) (b3 : Bool) (A3 : Option Addr) (p3 c3 : Nat) (e3 : Int) (b3' : Bool) (B3 : Option Addr) (q3 d3 : Nat) (f3 : Int) :
    Lq w0 (put18 w g (.bool b1) (.slice A1 p1 c1) (.int .i64 e1) (.bool b1') (.slice B1 q1 d1) (.int .i64 f1) (.bool b2) (.slice A2 p2 c2) (.int .i64 e2) (.bool b2') (.slice B2 q2 d2) (.int .i64 f2) (.bool b3) (.slice A3 p3 c3) (.int .i64 e3) (.bool b3') (.slice B3 q3 d3) (.int .i64 f3)) ns zs qs ((g, 32, #[.bool b1, .slice A1 p1 c1, .int .i64 e1, .bool b1', .slice B1 q1 d1, .int .i64 f1, .bool b2, .slice A2 p2 c2, .int .i64 e2, .bool b2', .slice B2 q2 d2, .int .i64 f2, .bool b3, .slice A3 p3 c3, .int .i64 e3, .bool b3', .slice B3 q3 d3, .int .i64 f3]) :: bs) := by
  have h0 : Lq w0 (w.setCell ⟨g, 0, none⟩ (.bool b1)) ns zs qs ((g, 32, #[(.bool b1), x1, x2, x3, x4, x5, x6, x7, x8, x9, x10, x11, x12, x13, x14, x15, x16, x17]) :: bs) := h.set hg hd 0 (.bool b1) (by intro x e; cases e)
  have h1 : Lq w0 ((w.setCell ⟨g, 0, none⟩ (.bool b1)).setCell ⟨g, 1, none⟩ (.slice A1 p1 c1)) ns zs qs ((g, 32, #[(.bool b1), (.slice A1 p1 c1), x2, x3, x4, x5, x6, x7, x8, x9, x10, x11, x12, x13, x14, x15, x16, x17]) :: bs) := h0.set hg hd 1 (.slice A1 p1 c1) (by intro x e; cases e)
  clear h0
  have h2 : Lq w0 (((w.setCell ⟨g, 0, none⟩ (.bool b1)).setCell ⟨g, 1, none⟩ (.slice A1 p1 c1)).setCell ⟨g, 2, none⟩ (.int .i64 e1)) ns zs qs ((g, 32, #[(.bool b1), (.slice A1 p1 c1), (.int .i64 e1), x3, x4, x5, x6, x7, x8, x9, x10, x11, x12, x13, x14, x15, x16, x17]) :: bs) := h1.set hg hd 2 (.int .i64 e1) (by intro x e; cases e)
  clear h1
  have h3 : Lq w0 ((((w.setCell ⟨g, 0, none⟩ (.bool b1)).setCell ⟨g, 1, none⟩ (.slice A1 p1 c1)).setCell ⟨g, 2, none⟩ (.int .i64 e1)).setCell ⟨g, 3, none⟩ (.bool b1')) ns zs qs ((g, 32, #[(.bool b1), (.slice A1 p1 c1), (.int .i64 e1), (.bool b1'), x4, x5, x6, x7, x8, x9, x10, x11, x12, x13, x14, x15, x16, x17]) :: bs) := h2.set hg hd 3 (.bool b1') (by intro x e; cases e)
  clear h2
  have h4 : Lq w0 (((((w.setCell ⟨g, 0, none⟩ (.bool b1)).setCell ⟨g, 1, none⟩ (.slice A1 p1 c1)).setCell ⟨g, 2, none⟩ (.int .i64 e1)).setCell ⟨g, 3, none⟩ (.bool b1')).setCell ⟨g, 4, none⟩ (.slice B1 q1 d1)) ns zs qs ((g, 32, #[(.bool b1), (.slice A1 p1 c1), (.int .i64 e1), (.bool b1'), (.slice B1 q1 d1), x5, x6, x7, x8, x9, x10, x11, x12, x13, x14, x15, x16, x17]) :: bs) := h3.set hg hd 4 (.slice B1 q1 d1) (by intro x e; cases e)
  clear h3
  have h5 : Lq w0 ((((((w.setCell ⟨g, 0, none⟩ (.bool b1)).setCell ⟨g, 1, none⟩ (.slice A1 p1 c1)).setCell ⟨g, 2, none⟩ (.int .i64 e1)).setCell ⟨g, 3, none⟩ (.bool b1')).setCell ⟨g, 4, none⟩ (.slice B1 q1 d1)).setCell ⟨g, 5, none⟩ (.int .i64 f1)) ns zs qs ((g, 32, #[(.bool b1), (.slice A1 p1 c1), (.int .i64 e1), (.bool b1'), (.slice B1 q1 d1), (.int .i64 f1), x6, x7, x8, x9, x10, x11, x12, x13, x14, x15, x16, x17]) :: bs) := h4.set hg hd 5 (.int .i64 f1) (by intro x e; cases e)
  clear h4
  have h6 : Lq w0 (((((((w.setCell ⟨g, 0, none⟩ (.bool b1)).setCell ⟨g, 1, none⟩ (.slice A1 p1 c1)).setCell ⟨g, 2, none⟩ (.int .i64 e1)).setCell ⟨g, 3, none⟩ (.bool b1')).setCell ⟨g, 4, none⟩ (.slice B1 q1 d1)).setCell ⟨g, 5, none⟩ (.int .i64 f1)).setCell ⟨g, 6, none⟩ (.bool b2)) ns zs qs ((g, 32, #[(.bool b1), (.slice A1 p1 c1), (.int .i64 e1), (.bool b1'), (.slice B1 q1 d1), (.int .i64 f1), (.bool b2), x7, x8, x9, x10, x11, x12, x13, x14, x15, x16, x17]) :: bs) := h5.set hg hd 6 (.bool b2) (by intro x e; cases e)
  clear h5
  have h7 : Lq w0 ((((((((w.setCell ⟨g, 0, none⟩ (.bool b1)).setCell ⟨g, 1, none⟩ (.slice A1 p1 c1)).setCell ⟨g, 2, none⟩ (.int .i64 e1)).setCell ⟨g, 3, none⟩ (.bool b1')).setCell ⟨g, 4, none⟩ (.slice B1 q1 d1)).setCell ⟨g, 5, none⟩ (.int .i64 f1)).setCell ⟨g, 6, none⟩ (.bool b2)).setCell ⟨g, 7, none⟩ (.slice A2 p2 c2)) ns zs qs ((g, 32, #[(.bool b1), (.slice A1 p1 c1), (.int .i64 e1), (.bool b1'), (.slice B1 q1 d1), (.int .i64 f1), (.bool b2), (.slice A2 p2 c2), x8, x9, x10, x11, x12, x13, x14, x15, x16, x17]) :: bs) := h6.set hg hd 7 (.slice A2 p2 c2) (by intro x e; cases e)
  clear h6
  have h8 : Lq w0 (((((((((w.setCell ⟨g, 0, none⟩ (.bool b1)).setCell ⟨g, 1, none⟩ (.slice A1 p1 c1)).setCell ⟨g, 2, none⟩ (.int .i64 e1)).setCell ⟨g, 3, none⟩ (.bool b1')).setCell ⟨g, 4, none⟩ (.slice B1 q1 d1)).setCell ⟨g, 5, none⟩ (.int .i64 f1)).setCell ⟨g, 6, none⟩ (.bool b2)).setCell ⟨g, 7, none⟩ (.slice A2 p2 c2)).setCell ⟨g, 8, none⟩ (.int .i64 e2)) ns zs qs ((g, 32, #[(.bool b1), (.slice A1 p1 c1), (.int .i64 e1), (.bool b1'), (.slice B1 q1 d1), (.int .i64 f1), (.bool b2), (.slice A2 p2 c2), (.int .i64 e2), x9, x10, x11, x12, x13, x14, x15, x16, x17]) :: bs) := h7.set hg hd 8 (.int .i64 e2) (by intro x e; cases e)
  clear h7
  have h9 : Lq w0 ((((((((((w.setCell ⟨g, 0, none⟩ (.bool b1)).setCell ⟨g, 1, none⟩ (.slice A1 p1 c1)).setCell ⟨g, 2, none⟩ (.int .i64 e1)).setCell ⟨g, 3, none⟩ (.bool b1')).setCell ⟨g, 4, none⟩ (.slice B1 q1 d1)).setCell ⟨g, 5, none⟩ (.int .i64 f1)).setCell ⟨g, 6, none⟩ (.bool b2)).setCell ⟨g, 7, none⟩ (.slice A2 p2 c2)).setCell ⟨g, 8, none⟩ (.int .i64 e2)).setCell ⟨g, 9, none⟩ (.bool b2')) ns zs qs ((g, 32, #[(.bool b1), (.slice A1 p1 c1), (.int .i64 e1), (.bool b1'), (.slice B1 q1 d1), (.int .i64 f1), (.bool b2), (.slice A2 p2 c2), (.int .i64 e2), (.bool b2'), x10, x11, x12, x13, x14, x15, x16, x17]) :: bs) := h8.set hg hd 9 (.bool b2') (by intro x e; cases e)
  clear h8
  have h10 : Lq w0 (((((((((((w.setCell ⟨g, 0, none⟩ (.bool b1)).setCell ⟨g, 1, none⟩ (.slice A1 p1 c1)).setCell ⟨g, 2, none⟩ (.int .i64 e1)).setCell ⟨g, 3, none⟩ (.bool b1')).setCell ⟨g, 4, none⟩ (.slice B1 q1 d1)).setCell ⟨g, 5, none⟩ (.int .i64 f1)).setCell ⟨g, 6, none⟩ (.bool b2)).setCell ⟨g, 7, none⟩ (.slice A2 p2 c2)).setCell ⟨g, 8, none⟩ (.int .i64 e2)).setCell ⟨g, 9, none⟩ (.bool b2')).setCell ⟨g, 10, none⟩ (.slice B2 q2 d2)) ns zs qs ((g, 32, #[(.bool b1), (.slice A1 p1 c1), (.int .i64 e1), (.bool b1'), (.slice B1 q1 d1), (.int .i64 f1), (.bool b2), (.slice A2 p2 c2), (.int .i64 e2), (.bool b2'), (.slice B2 q2 d2), x11, x12, x13, x14, x15, x16, x17]) :: bs) := h9.set hg hd 10 (.slice B2 q2 d2) (by intro x e; cases e)
  clear h9
  have h11 : Lq w0 ((((((((((((w.setCell ⟨g, 0, none⟩ (.bool b1)).setCell ⟨g, 1, none⟩ (.slice A1 p1 c1)).setCell ⟨g, 2, none⟩ (.int .i64 e1)).setCell ⟨g, 3, none⟩ (.bool b1')).setCell ⟨g, 4, none⟩ (.slice B1 q1 d1)).setCell ⟨g, 5, none⟩ (.int .i64 f1)).setCell ⟨g, 6, none⟩ (.bool b2)).setCell ⟨g, 7, none⟩ (.slice A2 p2 c2)).setCell ⟨g, 8, none⟩ (.int .i64 e2)).setCell ⟨g, 9, none⟩ (.bool b2')).setCell ⟨g, 10, none⟩ (.slice B2 q2 d2)).setCell ⟨g, 11, none⟩ (.int .i64 f2)) ns zs qs ((g, 32, #[(.bool b1), (.slice A1 p1 c1), (.int .i64 e1), (.bool b1'), (.slice B1 q1 d1), (.int .i64 f1), (.bool b2), (.slice A2 p2 c2), (.int .i64 e2), (.bool b2'), (.slice B2 q2 d2), (.int .i64 f2), x12, x13, x14, x15, x16, x17]) :: bs) := h10.set hg hd 11 (.int .i64 f2) (by intro x e; cases e)
  clear h10
  have h12 : Lq w0 (((((((((((((w.setCell ⟨g, 0, none⟩ (.bool b1)).setCell ⟨g, 1, none⟩ (.slice A1 p1 c1)).setCell ⟨g, 2, none⟩ (.int .i64 e1)).setCell ⟨g, 3, none⟩ (.bool b1')).setCell ⟨g, 4, none⟩ (.slice B1 q1 d1)).setCell ⟨g, 5, none⟩ (.int .i64 f1)).setCell ⟨g, 6, none⟩ (.bool b2)).setCell ⟨g, 7, none⟩ (.slice A2 p2 c2)).setCell ⟨g, 8, none⟩ (.int .i64 e2)).setCell ⟨g, 9, none⟩ (.bool b2')).setCell ⟨g, 10, none⟩ (.slice B2 q2 d2)).setCell ⟨g, 11, none⟩ (.int .i64 f2)).setCell ⟨g, 12, none⟩ (.bool b3)) ns zs qs ((g, 32, #[(.bool b1), (.slice A1 p1 c1), (.int .i64 e1), (.bool b1'), (.slice B1 q1 d1), (.int .i64 f1), (.bool b2), (.slice A2 p2 c2), (.int .i64 e2), (.bool b2'), (.slice B2 q2 d2), (.int .i64 f2), (.bool b3), x13, x14, x15, x16, x17]) :: bs) := h11.set hg hd 12 (.bool b3) (by intro x e; cases e)
  clear h11
  have h13 : Lq w0 ((((((((((((((w.setCell ⟨g, 0, none⟩ (.bool b1)).setCell ⟨g, 1, none⟩ (.slice A1 p1 c1)).setCell ⟨g, 2, none⟩ (.int .i64 e1)).setCell ⟨g, 3, none⟩ (.bool b1')).setCell ⟨g, 4, none⟩ (.slice B1 q1 d1)).setCell ⟨g, 5, none⟩ (.int .i64 f1)).setCell ⟨g, 6, none⟩ (.bool b2)).setCell ⟨g, 7, none⟩ (.slice A2 p2 c2)).setCell ⟨g, 8, none⟩ (.int .i64 e2)).setCell ⟨g, 9, none⟩ (.bool b2')).setCell ⟨g, 10, none⟩ (.slice B2 q2 d2)).setCell ⟨g, 11, none⟩ (.int .i64 f2)).setCell ⟨g, 12, none⟩ (.bool b3)).setCell ⟨g, 13, none⟩ (.slice A3 p3 c3)) ns zs qs ((g, 32, #[(.bool b1), (.slice A1 p1 c1), (.int .i64 e1), (.bool b1'), (.slice B1 q1 d1), (.int .i64 f1), (.bool b2), (.slice A2 p2 c2), (.int .i64 e2), (.bool b2'), (.slice B2 q2 d2), (.int .i64 f2), (.bool b3), (.slice A3 p3 c3), x14, x15, x16, x17]) :: bs) := h12.set hg hd 13 (.slice A3 p3 c3) (by intro x e; cases e)
  clear h12
  have h14 : Lq w0 (((((((((((((((w.setCell ⟨g, 0, none⟩ (.bool b1)).setCell ⟨g, 1, none⟩ (.slice A1 p1 c1)).setCell ⟨g, 2, none⟩ (.int .i64 e1)).setCell ⟨g, 3, none⟩ (.bool b1')).setCell ⟨g, 4, none⟩ (.slice B1 q1 d1)).setCell ⟨g, 5, none⟩ (.int .i64 f1)).setCell ⟨g, 6, none⟩ (.bool b2)).setCell ⟨g, 7, none⟩ (.slice A2 p2 c2)).setCell ⟨g, 8, none⟩ (.int .i64 e2)).setCell ⟨g, 9, none⟩ (.bool b2')).setCell ⟨g, 10, none⟩ (.slice B2 q2 d2)).setCell ⟨g, 11, none⟩ (.int .i64 f2)).setCell ⟨g, 12, none⟩ (.bool b3)).setCell ⟨g, 13, none⟩ (.slice A3 p3 c3)).setCell ⟨g, 14, none⟩ (.int .i64 e3)) ns zs qs ((g, 32, #[(.bool b1), (.slice A1 p1 c1), (.int .i64 e1), (.bool b1'), (.slice B1 q1 d1), (.int .i64 f1), (.bool b2), (.slice A2 p2 c2), (.int .i64 e2), (.bool b2'), (.slice B2 q2 d2), (.int .i64 f2), (.bool b3), (.slice A3 p3 c3), (.int .i64 e3), x15, x16, x17]) :: bs) := h13.set hg hd 14 (.int .i64 e3) (by intro x e; cases e)
  clear h13
  have h15 : Lq w0 ((((((((((((((((w.setCell ⟨g, 0, none⟩ (.bool b1)).setCell ⟨g, 1, none⟩ (.slice A1 p1 c1)).setCell ⟨g, 2, none⟩ (.int .i64 e1)).setCell ⟨g, 3, none⟩ (.bool b1')).setCell ⟨g, 4, none⟩ (.slice B1 q1 d1)).setCell ⟨g, 5, none⟩ (.int .i64 f1)).setCell ⟨g, 6, none⟩ (.bool b2)).setCell ⟨g, 7, none⟩ (.slice A2 p2 c2)).setCell ⟨g, 8, none⟩ (.int .i64 e2)).setCell ⟨g, 9, none⟩ (.bool b2')).setCell ⟨g, 10, none⟩ (.slice B2 q2 d2)).setCell ⟨g, 11, none⟩ (.int .i64 f2)).setCell ⟨g, 12, none⟩ (.bool b3)).setCell ⟨g, 13, none⟩ (.slice A3 p3 c3)).setCell ⟨g, 14, none⟩ (.int .i64 e3)).setCell ⟨g, 15, none⟩ (.bool b3')) ns zs qs ((g, 32, #[(.bool b1), (.slice A1 p1 c1), (.int .i64 e1), (.bool b1'), (.slice B1 q1 d1), (.int .i64 f1), (.bool b2), (.slice A2 p2 c2), (.int .i64 e2), (.bool b2'), (.slice B2 q2 d2), (.int .i64 f2), (.bool b3), (.slice A3 p3 c3), (.int .i64 e3), (.bool b3'), x16, x17]) :: bs) := h14.set hg hd 15 (.bool b3') (by intro x e; cases e)
  clear h14
  have h16 : Lq w0 (((((((((((((((((w.setCell ⟨g, 0, none⟩ (.bool b1)).setCell ⟨g, 1, none⟩ (.slice A1 p1 c1)).setCell ⟨g, 2, none⟩ (.int .i64 e1)).setCell ⟨g, 3, none⟩ (.bool b1')).setCell ⟨g, 4, none⟩ (.slice B1 q1 d1)).setCell ⟨g, 5, none⟩ (.int .i64 f1)).setCell ⟨g, 6, none⟩ (.bool b2)).setCell ⟨g, 7, none⟩ (.slice A2 p2 c2)).setCell ⟨g, 8, none⟩ (.int .i64 e2)).setCell ⟨g, 9, none⟩ (.bool b2')).setCell ⟨g, 10, none⟩ (.slice B2 q2 d2)).setCell ⟨g, 11, none⟩ (.int .i64 f2)).setCell ⟨g, 12, none⟩ (.bool b3)).setCell ⟨g, 13, none⟩ (.slice A3 p3 c3)).setCell ⟨g, 14, none⟩ (.int .i64 e3)).setCell ⟨g, 15, none⟩ (.bool b3')).setCell ⟨g, 16, none⟩ (.slice B3 q3 d3)) ns zs qs ((g, 32, #[(.bool b1), (.slice A1 p1 c1), (.int .i64 e1), (.bool b1'), (.slice B1 q1 d1), (.int .i64 f1), (.bool b2), (.slice A2 p2 c2), (.int .i64 e2), (.bool b2'), (.slice B2 q2 d2), (.int .i64 f2), (.bool b3), (.slice A3 p3 c3), (.int .i64 e3), (.bool b3'), (.slice B3 q3 d3), x17]) :: bs) := h15.set hg hd 16 (.slice B3 q3 d3) (by intro x e; cases e)
  clear h15
  have h17 : Lq w0 ((((((((((((((((((w.setCell ⟨g, 0, none⟩ (.bool b1)).setCell ⟨g, 1, none⟩ (.slice A1 p1 c1)).setCell ⟨g, 2, none⟩ (.int .i64 e1)).setCell ⟨g, 3, none⟩ (.bool b1')).setCell ⟨g, 4, none⟩ (.slice B1 q1 d1)).setCell ⟨g, 5, none⟩ (.int .i64 f1)).setCell ⟨g, 6, none⟩ (.bool b2)).setCell ⟨g, 7, none⟩ (.slice A2 p2 c2)).setCell ⟨g, 8, none⟩ (.int .i64 e2)).setCell ⟨g, 9, none⟩ (.bool b2')).setCell ⟨g, 10, none⟩ (.slice B2 q2 d2)).setCell ⟨g, 11, none⟩ (.int .i64 f2)).setCell ⟨g, 12, none⟩ (.bool b3)).setCell ⟨g, 13, none⟩ (.slice A3 p3 c3)).setCell ⟨g, 14, none⟩ (.int .i64 e3)).setCell ⟨g, 15, none⟩ (.bool b3')).setCell ⟨g, 16, none⟩ (.slice B3 q3 d3)).setCell ⟨g, 17, none⟩ (.int .i64 f3)) ns zs qs ((g, 32, #[(.bool b1), (.slice A1 p1 c1), (.int .i64 e1), (.bool b1'), (.slice B1 q1 d1), (.int .i64 f1), (.bool b2), (.slice A2 p2 c2), (.int .i64 e2), (.bool b2'), (.slice B2 q2 d2), (.int .i64 f2), (.bool b3), (.slice A3 p3 c3), (.int .i64 e3), (.bool b3'), (.slice B3 q3 d3), (.int .i64 f3)]) :: bs) := h16.set hg hd 17 (.int .i64 f3) (by intro x e; cases e)
  clear h16
  exact h17
end
theorem Var.cT0 {w : World} {g : Nat} {ty : TypeId} {x0 x1 x2 x3 x4 x5 x6 x7 x8 x9 x10 x11 x12 x13 x14 x15 x16 x17 : Value} (h : Var w g ty #[x0, x1, x2, x3, x4, x5, x6, x7, x8, x9, x10, x11, x12, x13, x14, x15, x16, x17]) : w.cell? ⟨g, 0, none⟩ = some x0 := h.cell 0
theorem Var.cT1 {w : World} {g : Nat} {ty : TypeId} {x0 x1 x2 x3 x4 x5 x6 x7 x8 x9 x10 x11 x12 x13 x14 x15 x16 x17 : Value} (h : Var w g ty #[x0, x1, x2, x3, x4, x5, x6, x7, x8, x9, x10, x11, x12, x13, x14, x15, x16, x17]) : w.cell? ⟨g, 1, none⟩ = some x1 := h.cell 1
theorem Var.cT2 {w : World} {g : Nat} {ty : TypeId} {x0 x1 x2 x3 x4 x5 x6 x7 x8 x9 x10 x11 x12 x13 x14 x15 x16 x17 : Value} (h : Var w g ty #[x0, x1, x2, x3, x4, x5, x6, x7, x8, x9, x10, x11, x12, x13, x14, x15, x16, x17]) : w.cell? ⟨g, 2, none⟩ = some x2 := h.cell 2
theorem Var.cT3 {w : World} {g : Nat} {ty : TypeId} {x0 x1 x2 x3 x4 x5 x6 x7 x8 x9 x10 x11 x12 x13 x14 x15 x16 x17 : Value} (h : Var w g ty #[x0, x1, x2, x3, x4, x5, x6, x7, x8, x9, x10, x11, x12, x13, x14, x15, x16, x17]) : w.cell? ⟨g, 3, none⟩ = some x3 := h.cell 3
theorem Var.cT4 {w : World} {g : Nat} {ty : TypeId} {x0 x1 x2 x3 x4 x5 x6 x7 x8 x9 x10 x11 x12 x13 x14 x15 x16 x17 : Value} (h : Var w g ty #[x0, x1, x2, x3, x4, x5, x6, x7, x8, x9, x10, x11, x12, x13, x14, x15, x16, x17]) : w.cell? ⟨g, 4, none⟩ = some x4 := h.cell 4
theorem Var.cT5 {w : World} {g : Nat} {ty : TypeId} {x0 x1 x2 x3 x4 x5 x6 x7 x8 x9 x10 x11 x12 x13 x14 x15 x16 x17 : Value} (h : Var w g ty #[x0, x1, x2, x3, x4, x5, x6, x7, x8, x9, x10, x11, x12, x13, x14, x15, x16, x17]) : w.cell? ⟨g, 5, none⟩ = some x5 := h.cell 5
theorem Var.cT6 {w : World} {g : Nat} {ty : TypeId} {x0 x1 x2 x3 x4 x5 x6 x7 x8 x9 x10 x11 x12 x13 x14 x15 x16 x17 : Value} (h : Var w g ty #[x0, x1, x2, x3, x4, x5, x6, x7, x8, x9, x10, x11, x12, x13, x14, x15, x16, x17]) : w.cell? ⟨g, 6, none⟩ = some x6 := h.cell 6
theorem Var.cT7 {w : World} {g : Nat} {ty : TypeId} {x0 x1 x2 x3 x4 x5 x6 x7 x8 x9 x10 x11 x12 x13 x14 x15 x16 x17 : Value} (h : Var w g ty #[x0, x1, x2, x3, x4, x5, x6, x7, x8, x9, x10, x11, x12, x13, x14, x15, x16, x17]) : w.cell? ⟨g, 7, none⟩ = some x7 := h.cell 7
theorem Var.cT8 {w : World} {g : Nat} {ty : TypeId} {x0 x1 x2 x3 x4 x5 x6 x7 x8 x9 x10 x11 x12 x13 x14 x15 x16 x17 : Value} (h : Var w g ty #[x0, x1, x2, x3, x4, x5, x6, x7, x8, x9, x10, x11, x12, x13, x14, x15, x16, x17]) : w.cell? ⟨g, 8, none⟩ = some x8 := h.cell 8
theorem Var.cT9 {w : World} {g : Nat} {ty : TypeId} {x0 x1 x2 x3 x4 x5 x6 x7 x8 x9 x10 x11 x12 x13 x14 x15 x16 x17 : Value} (h : Var w g ty #[x0, x1, x2, x3, x4, x5, x6, x7, x8, x9, x10, x11, x12, x13, x14, x15, x16, x17]) : w.cell? ⟨g, 9, none⟩ = some x9 := h.cell 9
theorem Var.cT10 {w : World} {g : Nat} {ty : TypeId} {x0 x1 x2 x3 x4 x5 x6 x7 x8 x9 x10 x11 x12 x13 x14 x15 x16 x17 : Value} (h : Var w g ty #[x0, x1, x2, x3, x4, x5, x6, x7, x8, x9, x10, x11, x12, x13, x14, x15, x16, x17]) : w.cell? ⟨g, 10, none⟩ = some x10 := h.cell 10
theorem Var.cT11 {w : World} {g : Nat} {ty : TypeId} {x0 x1 x2 x3 x4 x5 x6 x7 x8 x9 x10 x11 x12 x13 x14 x15 x16 x17 : Value} (h : Var w g ty #[x0, x1, x2, x3, x4, x5, x6, x7, x8, x9, x10, x11, x12, x13, x14, x15, x16, x17]) : w.cell? ⟨g, 11, none⟩ = some x11 := h.cell 11
theorem Var.cT12 {w : World} {g : Nat} {ty : TypeId} {x0 x1 x2 x3 x4 x5 x6 x7 x8 x9 x10 x11 x12 x13 x14 x15 x16 x17 : Value} (h : Var w g ty #[x0, x1, x2, x3, x4, x5, x6, x7, x8, x9, x10, x11, x12, x13, x14, x15, x16, x17]) : w.cell? ⟨g, 12, none⟩ = some x12 := h.cell 12
theorem Var.cT13 {w : World} {g : Nat} {ty : TypeId} {x0 x1 x2 x3 x4 x5 x6 x7 x8 x9 x10 x11 x12 x13 x14 x15 x16 x17 : Value} (h : Var w g ty #[x0, x1, x2, x3, x4, x5, x6, x7, x8, x9, x10, x11, x12, x13, x14, x15, x16, x17]) : w.cell? ⟨g, 13, none⟩ = some x13 := h.cell 13
theorem Var.cT14 {w : World} {g : Nat} {ty : TypeId} {x0 x1 x2 x3 x4 x5 x6 x7 x8 x9 x10 x11 x12 x13 x14 x15 x16 x17 : Value} (h : Var w g ty #[x0, x1, x2, x3, x4, x5, x6, x7, x8, x9, x10, x11, x12, x13, x14, x15, x16, x17]) : w.cell? ⟨g, 14, none⟩ = some x14 := h.cell 14
theorem Var.cT15 {w : World} {g : Nat} {ty : TypeId} {x0 x1 x2 x3 x4 x5 x6 x7 x8 x9 x10 x11 x12 x13 x14 x15 x16 x17 : Value} (h : Var w g ty #[x0, x1, x2, x3, x4, x5, x6, x7, x8, x9, x10, x11, x12, x13, x14, x15, x16, x17]) : w.cell? ⟨g, 15, none⟩ = some x15 := h.cell 15
theorem Var.cT16 {w : World} {g : Nat} {ty : TypeId} {x0 x1 x2 x3 x4 x5 x6 x7 x8 x9 x10 x11 x12 x13 x14 x15 x16 x17 : Value} (h : Var w g ty #[x0, x1, x2, x3, x4, x5, x6, x7, x8, x9, x10, x11, x12, x13, x14, x15, x16, x17]) : w.cell? ⟨g, 16, none⟩ = some x16 := h.cell 16
theorem Var.cT17 {w : World} {g : Nat} {ty : TypeId} {x0 x1 x2 x3 x4 x5 x6 x7 x8 x9 x10 x11 x12 x13 x14 x15 x16 x17 : Value} (h : Var w g ty #[x0, x1, x2, x3, x4, x5, x6, x7, x8, x9, x10, x11, x12, x13, x14, x15, x16, x17]) : w.cell? ⟨g, 17, none⟩ = some x17 := h.cell 17
/-- A slice of integers: what its elements stand for. -/
def RowZ (w : World) (v : Value) (l : List Int) : Prop := ∃ g c, v = .slice (some ⟨g, 0, none⟩) l.length c ∧ g < w.heap.size ∧ ∀ (j : Nat) (p : Int), l[j]? = some p → ∃ A c, w.cell? ⟨g, 2 * j, none⟩ = some (.bool (ng p)) ∧ w.cell? ⟨g, 2 * j + 1, none⟩ = some (.slice A (zl p) c) ∧ IsZ w (.agg #[.bool (ng p), .slice A (zl p) c]) p
theorem RowZ.mono {w w' : World} {v : Value} {l : List Int} (h : RowZ w v l) (hb : Below w.heap.size w w') : RowZ w' v l := by
  obtain ⟨g, c, r, hg, h⟩ := h
  refine ⟨g, c, r, Nat.lt_of_lt_of_le hg hb.size, fun j p hp => ?_⟩
  obtain ⟨A, c, h1, h2, h3⟩ := h j p hp
  exact ⟨A, c, (hb.cell (p := ⟨g, 2 * j, none⟩) hg).trans h1, (hb.cell (p := ⟨g, 2 * j + 1, none⟩) hg).trans h2, h3.mono hb⟩
def LoopZ (l : List Int) (t : Nat) (a1 a2 : Int) : Prop := a1 ∈ l ∧ a2 ∈ l ∧ ∀ (j : Nat) (p : Int), j < t → l[j]? = some p → a1 ≤ p ∧ p ≤ a2
theorem LoopZ.step {l : List Int} {t : Nat} {a1 a2 a b1 b2 : Int} (h : LoopZ l t a1 a2) (hp : l[t]? = some a) (m1 : b1 ∈ l) (m2 : b2 ∈ l) (x1 : b1 ≤ a1) (x2 : b1 ≤ a) (y1 : a2 ≤ b2) (y2 : a ≤ b2) : LoopZ l (t + 1) b1 b2 := by
  refine ⟨m1, m2, fun j p hj hjp => ?_⟩
  rcases Nat.lt_or_ge j t with h1 | h1
  · have := h.2.2 j p h1 hjp
    exact ⟨Int.le_trans x1 this.1, Int.le_trans this.2 y1⟩
  · obtain rfl : j = t := by omega
    rw [hp] at hjp
    obtain rfl := Option.some.inj hjp
    exact ⟨x2, y2⟩
theorem LoopZ.all {l : List Int} {a1 a2 : Int} {n : Nat} (hn : l.length = n) (h : LoopZ l n a1 a2) : (∀ q ∈ l, a1 ≤ q) ∧ ∀ q ∈ l, q ≤ a2 := by
  constructor <;> intro q hq <;> obtain ⟨j, hj, e⟩ := List.getElem_of_mem hq
  · exact (h.2.2 j q (by omega) (by rw [← e]; exact List.getElem?_eq_getElem hj)).1
  · exact (h.2.2 j q (by omega) (by rw [← e]; exact List.getElem?_eq_getElem hj)).2
theorem results_two {fn : Func} {p q : Tmp} {ty tu : TypeId} (h : fn.results = #[.cell p ty, .cell q tu]) (tmps : Array Value) (P : Program) (w : World) :
    (results fn tmps).run P w = ((asAddr (tmps.getD p undef)).run P w).andThen fun a w1 => ((loadVar ty a).run P w1).andThen fun v w2 => ((asAddr (tmps.getD q undef)).run P w2).andThen fun b w3 => ((loadVar tu b).run P w3).andThen fun u w4 => .ok (.tuple #[v, u]) w4 := by
  simp only [results, h]
  simp [Sem.run_bind, Result.andThen]
/-- The ends of a constant's interval, as Make returns them. -/
def aM (T : Int) (k : Nat) : Int := mkM (loC T) (-(k : Int))
def aE (T : Int) (k : Nat) : Int := mkE (loC T) (-(k : Int))
def bM (T : Int) (k : Nat) : Int := mkM (hiC T) (-(k : Int))
def bE (T : Int) (k : Nat) : Int := mkE (hiC T) (-(k : Int))
/-- What a law asks of the ends of an interval. -/
def Okd (m e : Int) : Prop := zl m ≤ 50 ∧ (-3000 ≤ e ∧ e ≤ 3000) ∧ Dv m e
theorem mk_okd {C : Int} {k j : Nat} (h : AbP C j) (hj : j ≤ 1300) (hk : k ≤ 900) : Okd (mkM C (-(k : Int))) (mkE C (-(k : Int))) ∧ dq (mkM C (-(k : Int))) (mkE C (-(k : Int))) = dq C (-(k : Int)) ∧ -(k : Int) ≤ mkE C (-(k : Int)) := by
  have hz := h.zl
  have hr : mkR C (-(k : Int)) = 0 := mk_fits9 (by omega) (by omega) (by omega)
  have z1 := zl_mk C (-(k : Int))
  have e1 := mkE_at hr (k := 41) (by omega)
  exact ⟨⟨by omega, by omega, mk_ok hr⟩, dq_mk hr, by omega⟩
theorem pi_abs {k : Nat} {T : Int} (hk : k ≤ 400) (h : piT (k + 32) = some T) : AbP T 1100 := by
  obtain ⟨a, b, h1, h2, rfl⟩ := add2_some h
  obtain ⟨S0, hS0, r0⟩ := pt1_some h1
  obtain ⟨S1, hS1, r1⟩ := pt1_some h2
  have x0 := (smP_abs (tnP_good (by simp)) 600 0 _ _ _ (sp_first hS0)).mul (show AbP 16 10 by unfold AbP; decide)
  have x1 := (smP_abs (tnP_good (by simp)) 600 0 _ _ _ (sp_first hS1)).mul (show AbP (-4) 10 by unfold AbP; decide)
  subst r0 r1
  exact (x0.add x1).up (by omega)
theorem ex_abs {k : Nat} {T : Int} (hk : k ≤ 400) (h : exT (k + 32) = some T) : AbP T 1100 := by
  obtain ⟨S0, hS0, r0⟩ := pt1_some h
  subst r0
  exact ((smP_abs exP_good 600 0 _ _ _ (sp_first hS0)).mul (show AbP 1 10 by unfold AbP; decide)).up (by omega)
theorem ln_abs {k : Nat} {T : Int} (hk : k ≤ 400) (h : lnT (k + 32) = some T) : AbP T 1100 := by
  obtain ⟨a9, b, h9, h2, rfl⟩ := add2_some h
  obtain ⟨a, c, h1, h3, rfl⟩ := add2_some h9
  obtain ⟨S0, hS0, r0⟩ := pt1_some h1
  obtain ⟨S1, hS1, r1⟩ := pt1_some h3
  obtain ⟨S2, hS2, r2⟩ := pt1_some h2
  have x0 := (smP_abs (tnP_good (by simp)) 600 0 _ _ _ (sp_first hS0)).mul (show AbP 18 10 by unfold AbP; decide)
  have x1 := (smP_abs (tnP_good (by simp)) 600 0 _ _ _ (sp_first hS1)).mul (show AbP (-2) 10 by unfold AbP; decide)
  have x2 := (smP_abs (tnP_good (by simp)) 600 0 _ _ _ (sp_first hS2)).mul (show AbP 8 10 by unfold AbP; decide)
  subst r0 r1 r2
  exact ((x0.add x1).add (x2.up (by omega))).up (by omega)
theorem inP_spec {c : Int} {k : Nat} {o : Option Int} (h : inP c k o = true) : ∃ T, o = some T ∧ loC T * 2 ^ (500 - k) ≤ c ∧ c ≤ hiC T * 2 ^ (500 - k) := by
  match o with
  | none => cases h
  | some T =>
    unfold inP at h
    rw [Bool.and_eq_true] at h
    exact ⟨T, rfl, of_decide_eq_true h.1, of_decide_eq_true h.2⟩
theorem dq_up (C : Int) {k F : Nat} (h : k ≤ F) : dq C (-(k : Int)) = dq (C * 2 ^ (F - k)) (-(F : Int)) := by
  refine dq_eq (F := -(F : Int)) ?_ (by omega) (by omega)
  rw [show (-(k : Int) - -(F : Int)).toNat = F - k by omega, show (-(F : Int) - -(F : Int)).toNat = 0 by omega]
  simp
/-- A constant's interval: what the laws use. -/
structure Cst (T c : Int) (k : Nat) : Prop where
  lo : Okd (aM T k) (aE T k)
  hi : Okd (bM T k) (bE T k)
  qlo : dq (aM T k) (aE T k) = dq (loC T) (-(k : Int))
  qhi : dq (bM T k) (bE T k) = dq (hiC T) (-(k : Int))
  clo : dq (aM T k) (aE T k) ≤ dq c (-500)
  chi : dq c (-500) ≤ dq (bM T k) (bE T k)
  tight : tgtB (aM T k) (aE T k) (bM T k) (bE T k) (k : Int) = true
theorem lo_le_hi (T : Int) : loC T ≤ hiC T := div_cdv (by omega) (by omega)
theorem hi_le_lo (T : Int) : hiC T ≤ loC T + 2 := by
  unfold hiC loC
  rw [cdv_le (by omega)]
  have := Int.lt_ediv_add_one_mul_self (T - 262144) (show (0 : Int) < 4294967296 by omega)
  omega
theorem cst_of {T c : Int} {k : Nat} (hk : k ≤ 400) (hT : AbP T 1100) (h1 : loC T * 2 ^ (500 - k) ≤ c) (h2 : c ≤ hiC T * 2 ^ (500 - k)) : Cst T c k := by
  obtain ⟨l1, l2⟩ := loC_abs hT (by omega)
  obtain ⟨x1, x2, x3⟩ := mk_okd (k := k) l1 (by omega) (by omega)
  obtain ⟨y1, y2, y3⟩ := mk_okd (k := k) l2 (by omega) (by omega)
  have hle : dq (aM T k) (aE T k) ≤ dq (bM T k) (bE T k) := by
    unfold aM aE bM bE
    rw [x2, y2, dq_le_iff]
    exact lo_le_hi T
  refine ⟨x1, y1, x2, y2, ?_, ?_, ?_⟩
  · unfold aM aE
    rw [x2, dq_up _ (show k ≤ 500 by omega)]
    exact (dq_le_iff _ _ _).2 h1
  · unfold bM bE
    rw [y2, dq_up _ (show k ≤ 500 by omega)]
    exact (dq_le_iff _ _ _).2 h2
  · have hpk : permB (k : Int) = true := by
      unfold permB
      rw [decide_eq_true (show (-2048 : Int) ≤ (k : Int) by omega), decide_eq_true (show (k : Int) ≤ 8192 by omega)]
      rfl
    have hpj : permB ((k : Int) - 1) = true := by
      unfold permB
      rw [decide_eq_true (show (-2048 : Int) ≤ (k : Int) - 1 by omega), decide_eq_true (show (k : Int) - 1 ≤ 8192 by omega)]
      rfl
    obtain ⟨w1, _, w3, _⟩ := width_ok (m := aM T k) (e := aE T k) (n := bM T k) (f := bE T k) x1.1 y1.1 x1.2.1 y1.2.1
    obtain ⟨g1, g2, g3⟩ := g_yes hpj 1
    have hr1 : mkR 1 (-((k : Int) - 1)) = 0 := mk_fits9 (show zl 1 ≤ 700 from Nat.le_trans (len_le1 (by decide)) (by omega)) (by omega) (by omega)
    have hw : dcm (wdM (aM T k) (aE T k) (bM T k) (bE T k)) (wdE (aM T k) (aE T k) (bM T k) (bE T k)) (gM 1 ((k : Int) - 1)) (gE 1 ((k : Int) - 1)) ≤ 0 := by
      rw [dcm_le, g1, g2, dq_mk hr1]
      unfold wdM wdE
      rw [w3]
      unfold aM aE bM bE
      rw [x2, y2]
      have e2 : dq 1 (-((k : Int) - 1)) = dq 2 (-(k : Int)) := by
        refine dq_eq (F := -(k : Int)) ?_ (by omega) (by omega)
        rw [show (-((k : Int) - 1) - -(k : Int)).toNat = 1 by omega, show (-(k : Int) - -(k : Int)).toNat = 0 by omega]
        rfl
      have e3 : dq (hiC T) (-(k : Int)) - dq (loC T) (-(k : Int)) = dq (hiC T - loC T) (-(k : Int)) := by
        rw [Int.sub_eq_add_neg, dq_scale (hiC T + -loC T), Rat.intCast_add, Rat.add_mul, ← dq_scale, ← dq_scale, dq_neg, Rat.sub_eq_add_neg]
      rw [e2, e3, dq_le_iff]
      have := hi_le_lo T
      omega
    unfold tgtB onB
    rw [hpk, decide_eq_true (show (0 : Int) ≤ (k : Int) by omega), decide_eq_true (show (k : Int) ≤ 4224 by omega), decide_eq_true ((dcm_le _ _ _ _).2 hle), decide_eq_true (show wdR (aM T k) (aE T k) (bM T k) (bE T k) = 0 from w1), decide_eq_true hw, decide_eq_true (show -(k : Int) ≤ aE T k from x3), decide_eq_true (show -(k : Int) ≤ bE T k from y3), Bool.or_true, Bool.or_true]
    rfl
theorem cst_pi {k : Nat} (hk : k < 400) : ∃ T, piT (k + 32) = some T ∧ Cst T cPi k := by
  have h := List.all_eq_true.1 pi_all k (List.mem_range.2 hk)
  obtain ⟨T, e, h1, h2⟩ := inP_spec h
  exact ⟨T, e, cst_of (by omega) (pi_abs (by omega) e) h1 h2⟩
theorem cst_ex {k : Nat} (hk : k < 400) : ∃ T, exT (k + 32) = some T ∧ Cst T cEx k := by
  have h := List.all_eq_true.1 ex_all k (List.mem_range.2 hk)
  obtain ⟨T, e, h1, h2⟩ := inP_spec h
  exact ⟨T, e, cst_of (by omega) (ex_abs (by omega) e) h1 h2⟩
theorem cst_ln {k : Nat} (hk : k < 400) : ∃ T, lnT (k + 32) = some T ∧ Cst T cLn k := by
  have h := List.all_eq_true.1 ln_all k (List.mem_range.2 hk)
  obtain ⟨T, e, h1, h2⟩ := inP_spec h
  exact ⟨T, e, cst_of (by omega) (ln_abs (by omega) e) h1 h2⟩
set_option maxHeartbeats 16000000 in
theorem awake13_any (w : World) (hT : Tab w) :
    Calls Tryz.prog 8 #[] w (RetB w true) := by
  obtain ⟨T, hT1, hc⟩ := cst_pi (k := 0) (by omega)
  obtain ⟨T', e', p1, p2⟩ := inP_spec (List.all_eq_true.1 pi_all 0 (List.mem_range.2 (by omega)))
  obtain rfl : T = T' := by rw [hT1] at e'; exact Option.some.inj e'
  have q1 : dq (aM T 0) (aE T 0) ≤ dq 3 0 := by
    rw [hc.qlo]
    refine (dq_le_iff _ _ _).2 ?_
    have h := Int.lt_of_le_of_lt p1 (show cPi < 4 * 2 ^ (500 - 0) by decide +kernel)
    have := Int.lt_of_mul_lt_mul_right h (Int.le_of_lt (pow2_pos _))
    omega
  have q2 : dq 4 0 ≤ dq (bM T 0) (bE T 0) := by
    rw [hc.qhi]
    refine (dq_le_iff _ _ _).2 ?_
    have h := Int.lt_of_lt_of_le (show 3 * 2 ^ (500 - 0) < cPi by decide +kernel) p2
    have := Int.lt_of_mul_lt_mul_right h (Int.le_of_lt (pow2_pos _))
    omega
  have a3 : AbP 3 2 := by unfold AbP; decide
  have a4 : AbP 4 2 := by unfold AbP; decide
  obtain ⟨_, x2, x3, x4, _, x6⟩ := nf a3 (by omega)
  obtain ⟨_, y2, y3, y4, _, y6⟩ := nf a4 (by omega)
  obtain ⟨lo1, lo2, lo3⟩ := hc.lo
  obtain ⟨hi1, hi2, hi3⟩ := hc.hi
  have g1 : ∀ W, Below w.heap.size w W → Calls Tryz.prog 25 #[.int .i64 0] W (RetIE W (aM T 0) (aE T 0) (bM T 0) (bE T 0) 0) := fun W hW => cpi_yes 0 T W (by omega) (hT.mono hW) hT1
  have g2 := fun W => cpi_no (-1) W (by decide)
  have g3 := fun W => rof8_any 3 W (by omega) (by omega)
  have g4 := fun W => rof8_any 4 W (by omega) (by omega)
  have g5 : ∀ v W, IsI W v (aM T 0) (aE T 0) (bM T 0) (bE T 0) → Calls Tryz.prog 12 #[v, .int .i64 0] W (RetB W true) := fun v W h => by
    have s := s13tight_any (aM T 0) (aE T 0) (bM T 0) (bE T 0) 0 v W h (by omega) (by omega) (by omega) (by omega) lo3 hi3 (by omega) (by omega)
    rwa [show tgtB (aM T 0) (aE T 0) (bM T 0) (bE T 0) 0 = true from hc.tight] at s
  have g6 : ∀ v u W, IsI W v (mkM 3 0) (mkE 3 0) (mkM 4 0) (mkE 4 0) → IsI W u (aM T 0) (aE T 0) (bM T 0) (bE T 0) → Calls Tryz.prog 24 #[v, u] W (RetB W true) := fun v u W h k => by
    have s := r10within_any (mkM 3 0) (mkE 3 0) (mkM 4 0) (mkE 4 0) (aM T 0) (aE T 0) (bM T 0) (bE T 0) v u W h k (by omega) (by omega) (by omega) (by omega) (by omega) (by omega) (by omega) (by omega)
    rwa [(inB_iff _ _ _ _ _ _ _ _).2 ⟨by rw [x6]; exact q1, by rw [y6]; exact q2⟩] at s
  clear hT1 hc e' p1 p2 q1 q2 a3 a4 x2 x3 x4 x6 y2 y3 y4 y6 lo1 lo2 lo3 hi1 hi2 hi3 hT
  generalize aM T 0 = M at *
  generalize aE T 0 = E at *
  generalize bM T 0 = N at *
  generalize bE T 0 = G at *
  generalize mkM 3 0 = M3 at *
  generalize mkE 3 0 = E3 at *
  generalize mkM 4 0 = M4 at *
  generalize mkE 4 0 = E4 at *
  have G1 := Lib.hid g1
  have G2 := Lib.hid g2
  have G3 := Lib.hid g3
  have G4 := Lib.hid g4
  have G5 := Lib.hid g5
  have G6 := Lib.hid g6
  clear g1 g2 g3 g4 g5 g6
  go_enter Tryz.func8, Tryz.ntmps8
  go_wp2_with fail
  have L := Lq.mk0 w
  (try go_wp2_with fail)
  refine (G1.out _ L.below).mono ?_
  rintro e w1 ⟨vv, rfl, ii, be⟩
  obtain ⟨A1, c1, B1, d1, rfl, ia, ib⟩ := ii.form
  replace L := ((L.step be).n ib).n ia
  clear be ii ia ib
  replace L := L.varI w1.heap.size rfl (ng M) A1 (zl M) c1 E (ng N) B1 (zl N) d1 G
  have cel00 := L.b0.c60
  have cel01 := L.b0.c61
  have cel02 := L.b0.c62
  have cel03 := L.b0.c63
  have cel04 := L.b0.c64
  have cel05 := L.b0.c65
  go_wp2_with fail
  clear cel00 cel01 cel02 cel03 cel04 cel05
  obtain ⟨b1, hb1⟩ : ∃ g9, w1.heap.size = g9 := ⟨_, rfl⟩
  rw [hb1] at L ⊢
  clear hb1
  refine (G2.out _).mono ?_
  rintro e w2 ⟨vv, rfl, ii, be⟩
  obtain ⟨A2, c2, B2, d2, rfl, ia, ib⟩ := ii.form
  replace L := ((L.step be).n ib).n ia
  clear be ii ia ib
  have hl2 := L.b0.lt
  replace L := L.varI w2.heap.size rfl (ng 0) A2 (zl 0) c2 0 (ng 0) B2 (zl 0) d2 0
  have cel00 := L.b0.c60
  have cel01 := L.b0.c61
  have cel02 := L.b0.c62
  have cel03 := L.b0.c63
  have cel04 := L.b0.c64
  have cel05 := L.b0.c65
  go_wp2_with fail
  clear cel00 cel01 cel02 cel03 cel04 cel05
  obtain ⟨b2, hb2⟩ : ∃ g9, w2.heap.size = g9 := ⟨_, rfl⟩
  rw [hb2] at L hl2 ⊢
  clear hb2
  refine (G3.out _).mono ?_
  rintro e w3 ⟨v3, rfl, id, be⟩
  obtain ⟨A3, c3, rfl, _, in9⟩ := id.form
  replace L := (L.step be).n in9
  clear be id in9
  (try go_wp2_with fail)
  refine (G4.out _).mono ?_
  rintro e w4 ⟨v4, rfl, id, be⟩
  obtain ⟨A4, c4, rfl, _, in9⟩ := id.form
  replace L := (L.step be).n in9
  clear be id in9
  have hl3 := L.tl.b0.lt
  replace L := L.varI w4.heap.size rfl (ng M3) A3 (zl M3) c3 E3 (ng M4) A4 (zl M4) c4 E4
  have cel00 := L.b0.c60
  have cel01 := L.b0.c61
  have cel02 := L.b0.c62
  have cel03 := L.b0.c63
  have cel04 := L.b0.c64
  have cel05 := L.b0.c65
  have cel20 := L.tl.tl.b0.c60
  have cel21 := L.tl.tl.b0.c61
  have cel22 := L.tl.tl.b0.c62
  have cel23 := L.tl.tl.b0.c63
  have cel24 := L.tl.tl.b0.c64
  have cel25 := L.tl.tl.b0.c65
  go_wp2_with fail
  clear cel00 cel01 cel02 cel03 cel04 cel05 cel20 cel21 cel22 cel23 cel24 cel25
  obtain ⟨b3, hb3⟩ : ∃ g9, w4.heap.size = g9 := ⟨_, rfl⟩
  rw [hb3] at L hl3 ⊢
  clear hb3
  refine (G5.out _ _ (isI_n (m := M) (e := E) (n := N) (f := G) (s := .slice A1 (zl M) c1) (t := .slice B1 (zl N) d1) (L.getN (by simp)) (L.getN (by simp)))).mono ?_
  rintro e w5 ⟨rfl, be⟩
  replace L := L.step be
  clear be
  have cel00 := L.b0.c60
  have cel01 := L.b0.c61
  have cel02 := L.b0.c62
  have cel03 := L.b0.c63
  have cel04 := L.b0.c64
  have cel05 := L.b0.c65
  have cel20 := L.tl.tl.b0.c60
  have cel21 := L.tl.tl.b0.c61
  have cel22 := L.tl.tl.b0.c62
  have cel23 := L.tl.tl.b0.c63
  have cel24 := L.tl.tl.b0.c64
  have cel25 := L.tl.tl.b0.c65
  (try go_wp2_with fail)
  refine (G6.out _ _ _ (isI_n (m := M3) (e := E3) (n := M4) (f := E4) (s := .slice A3 (zl M3) c3) (t := .slice A4 (zl M4) c4) (L.getN (by simp)) (L.getN (by simp))) (isI_n (m := M) (e := E) (n := N) (f := G) (s := .slice A1 (zl M) c1) (t := .slice B1 (zl N) d1) (L.getN (by simp)) (L.getN (by simp)))).mono ?_
  rintro e w6 ⟨rfl, be⟩
  clear cel00 cel01 cel02 cel03 cel04 cel05 cel20 cel21 cel22 cel23 cel24 cel25
  replace L := L.step be
  clear be
  (try go_wp2_with fail)
  (try go_ret)
  exact ⟨rfl, L.below⟩

theorem plainE3 (r1 r2 r3 : Int) : Plain #[.int .i64 r1, .int .i64 r2, .int .i64 r3] := fun j x => by
  match j with
  | 0 => simp
  | 1 => simp
  | 2 => simp
  | j + 3 => simp
def putE3 (w : World) (g : Nat) (a b c : Int) : World := ((w.setCell ⟨g, 0, none⟩ (.int .i64 a)).setCell ⟨g, 1, none⟩ (.int .i64 b)).setCell ⟨g, 2, none⟩ (.int .i64 c)
section
variable {w0 w : World} {ns : List (Value × Nat)} {zs : List (Value × Int)} {qs : List (Value × Int × Nat)} {bs : List (Nat × TypeId × Array Value)}
theorem Lq.varE3 (h : Lq w0 w ns zs qs bs) (g : Nat) (hg : g = w.heap.size) (r1 r2 r3 : Int) : Lq w0 (w.alloc (.cells #[.int .i64 r1, .int .i64 r2, .int .i64 r3] 34)) ns zs qs ((g, 34, #[.int .i64 r1, .int .i64 r2, .int .i64 r3]) :: bs) := h.var g hg _ _ (plainE3 _ _ _)
theorem Lq.putE3 {g : Nat} {x y z : Value} (h : Lq w0 w ns zs qs ((g, 34, #[x, y, z]) :: bs)) (hg : w0.heap.size ≤ g) (hd : ∀ p ∈ bs, p.1 ≠ g) (a b c : Int) :
    Lq w0 (putE3 w g a b c) ns zs qs ((g, 34, #[.int .i64 a, .int .i64 b, .int .i64 c]) :: bs) :=
  ((h.set hg hd 0 (.int .i64 a) (by intro x e; cases e)).set hg hd 1 (.int .i64 b) (by intro x e; cases e)).set hg hd 2 (.int .i64 c) (by intro x e; cases e)
end
/-- Three intervals and three errors; nothing that was there has turned. -/
def RetTE (w : World) (m1 e1 n1 f1 m2 e2 n2 f2 m3 e3 n3 f3 r1 r2 r3 : Int) (en : Ending) (w' : World) : Prop := ∃ v, en = .returned (.tuple #[v, .agg #[.int .i64 r1, .int .i64 r2, .int .i64 r3]]) ∧ IsT w' v m1 e1 n1 f1 m2 e2 n2 f2 m3 e3 n3 f3 ∧ Below w.heap.size w w'

set_option maxHeartbeats 16000000 in
theorem three_yes (k : Nat) (T1 T2 T3 : Int) (w : World) (hk : k ≤ 900) (hT : Tab w) (h1 : piT (k + 32) = some T1) (h2 : exT (k + 32) = some T2) (h3 : lnT (k + 32) = some T3) :
    Calls Tryz.prog 10 #[.int .i64 (k : Int)] w (RetTE w (mkM (loC T1) (-(k : Int))) (mkE (loC T1) (-(k : Int))) (mkM (hiC T1) (-(k : Int))) (mkE (hiC T1) (-(k : Int))) (mkM (loC T2) (-(k : Int))) (mkE (loC T2) (-(k : Int))) (mkM (hiC T2) (-(k : Int))) (mkE (hiC T2) (-(k : Int))) (mkM (loC T3) (-(k : Int))) (mkE (loC T3) (-(k : Int))) (mkM (hiC T3) (-(k : Int))) (mkE (hiC T3) (-(k : Int))) 0 0 0) := by
  have g1 := fun W (hW : Below w.heap.size w W) => cpi_yes k T1 W hk (hT.mono hW) h1
  have g2 := fun W (hW : Below w.heap.size w W) => cex_yes k T2 W hk (hT.mono hW) h2
  have g3 := fun W (hW : Below w.heap.size w W) => cln_yes k T3 W hk (hT.mono hW) h3
  generalize mkM (loC T1) (-(k : Int)) = m1 at *
  generalize mkE (loC T1) (-(k : Int)) = e1 at *
  generalize mkM (hiC T1) (-(k : Int)) = n1 at *
  generalize mkE (hiC T1) (-(k : Int)) = f1 at *
  generalize mkM (loC T2) (-(k : Int)) = m2 at *
  generalize mkE (loC T2) (-(k : Int)) = e2 at *
  generalize mkM (hiC T2) (-(k : Int)) = n2 at *
  generalize mkE (hiC T2) (-(k : Int)) = f2 at *
  generalize mkM (loC T3) (-(k : Int)) = m3 at *
  generalize mkE (loC T3) (-(k : Int)) = e3 at *
  generalize mkM (hiC T3) (-(k : Int)) = n3 at *
  generalize mkE (hiC T3) (-(k : Int)) = f3 at *
  clear h1 h2 h3
  have G1 := Lib.hid g1
  have G2 := Lib.hid g2
  have G3 := Lib.hid g3
  clear g1 g2 g3
  go_enter Tryz.func10, Tryz.ntmps10
  have L := ((Lq.mk0 w).varT w.heap.size rfl false none 0 0 0 false none 0 0 0 false none 0 0 0 false none 0 0 0 false none 0 0 0 false none 0 0 0).varE3 (w.heap.size + 1) (by simp) 0 0 0
  (try go_wp2_with fail)
  refine (G1.out _ L.below).mono ?_
  rintro e w1 ⟨vv, rfl, ii, be⟩
  obtain ⟨C1, p1, D1, q1, rfl, ia, ib⟩ := ii.form
  replace L := ((L.step be).n ib).n ia
  clear be ii ia ib
  have hl1 := L.b0.lt
  replace L := L.varI w1.heap.size rfl (ng m1) C1 (zl m1) p1 e1 (ng n1) D1 (zl n1) q1 f1
  have c00 := L.b0.c60
  have c01 := L.b0.c61
  have c02 := L.b0.c62
  have c03 := L.b0.c63
  have c04 := L.b0.c64
  have c05 := L.b0.c65
  go_wp2_with fail
  clear c00 c01 c02 c03 c04 c05
  obtain ⟨b1, hb1⟩ : ∃ g9, w1.heap.size = g9 := ⟨_, rfl⟩
  rw [hb1] at L hl1 ⊢
  clear hb1
  refine (G2.out _ L.below).mono ?_
  rintro e w2 ⟨vv, rfl, ii, be⟩
  obtain ⟨C2, p2, D2, q2, rfl, ia, ib⟩ := ii.form
  replace L := ((L.step be).n ib).n ia
  clear be ii ia ib
  have hl2 := L.tl.b0.lt
  replace L := L.varI w2.heap.size rfl (ng m2) C2 (zl m2) p2 e2 (ng n2) D2 (zl n2) q2 f2
  have c00 := L.b0.c60
  have c01 := L.b0.c61
  have c02 := L.b0.c62
  have c03 := L.b0.c63
  have c04 := L.b0.c64
  have c05 := L.b0.c65
  go_wp2_with fail
  clear c00 c01 c02 c03 c04 c05
  obtain ⟨b2, hb2⟩ : ∃ g9, w2.heap.size = g9 := ⟨_, rfl⟩
  rw [hb2] at L hl2 ⊢
  clear hb2
  refine (G3.out _ L.below).mono ?_
  rintro e w3 ⟨vv, rfl, ii, be⟩
  obtain ⟨C3, p3, D3, q3, rfl, ia, ib⟩ := ii.form
  replace L := ((L.step be).n ib).n ia
  clear be ii ia ib
  have hl3 := L.tl.tl.b0.lt
  have ha1 : w.heap.size < w3.heap.size := by omega
  have ha2 : w.heap.size ≠ w3.heap.size := by omega
  have ha3 : w.heap.size + 1 ≠ w3.heap.size := by omega
  have LN := L.varI w3.heap.size rfl (ng m3) C3 (zl m3) p3 e3 (ng n3) D3 (zl n3) q3 f3
  have x00' := LN.b0.c60
  have x10' := LN.tl.b0.c60
  have x20' := LN.tl.tl.b0.c60
  have y10' := L.b0.c60
  have y20' := L.tl.b0.c60
  have x01' := LN.b0.c61
  have x11' := LN.tl.b0.c61
  have x21' := LN.tl.tl.b0.c61
  have y11' := L.b0.c61
  have y21' := L.tl.b0.c61
  have x02' := LN.b0.c62
  have x12' := LN.tl.b0.c62
  have x22' := LN.tl.tl.b0.c62
  have y12' := L.b0.c62
  have y22' := L.tl.b0.c62
  have x03' := LN.b0.c63
  have x13' := LN.tl.b0.c63
  have x23' := LN.tl.tl.b0.c63
  have y13' := L.b0.c63
  have y23' := L.tl.b0.c63
  have x04' := LN.b0.c64
  have x14' := LN.tl.b0.c64
  have x24' := LN.tl.tl.b0.c64
  have y14' := L.b0.c64
  have y24' := L.tl.b0.c64
  have x05' := LN.b0.c65
  have x15' := LN.tl.b0.c65
  have x25' := LN.tl.tl.b0.c65
  have y15' := L.b0.c65
  have y25' := L.tl.b0.c65
  have L9 := L.subs (ns' := [(.slice C1 (zl m1) p1, (m1 : Int).natAbs), (.slice D1 (zl n1) q1, (n1 : Int).natAbs), (.slice C2 (zl m2) p2, (m2 : Int).natAbs), (.slice D2 (zl n2) q2, (n2 : Int).natAbs), (.slice C3 (zl m3) p3, (m3 : Int).natAbs), (.slice D3 (zl n3) q3, (n3 : Int).natAbs)]) (bs' := [(w.heap.size, 32, #[.bool false, .slice none 0 0, .int .i64 0, .bool false, .slice none 0 0, .int .i64 0, .bool false, .slice none 0 0, .int .i64 0, .bool false, .slice none 0 0, .int .i64 0, .bool false, .slice none 0 0, .int .i64 0, .bool false, .slice none 0 0, .int .i64 0]), (w.heap.size + 1, 34, #[.int .i64 0, .int .i64 0, .int .i64 0])]) (by simp) (by simp)
  clear L LN
  have L := L9
  clear L9
  have c0' := L.b0.cT0
  have r0' := L.b0.fr 0
  have c1' := L.b0.cT1
  have r1' := L.b0.fr 1
  have c2' := L.b0.cT2
  have r2' := L.b0.fr 2
  have c3' := L.b0.cT3
  have r3' := L.b0.fr 3
  have c4' := L.b0.cT4
  have r4' := L.b0.fr 4
  have c5' := L.b0.cT5
  have r5' := L.b0.fr 5
  have c6' := L.b0.cT6
  have r6' := L.b0.fr 6
  have c7' := L.b0.cT7
  have r7' := L.b0.fr 7
  have c8' := L.b0.cT8
  have r8' := L.b0.fr 8
  have c9' := L.b0.cT9
  have r9' := L.b0.fr 9
  have c10' := L.b0.cT10
  have r10' := L.b0.fr 10
  have c11' := L.b0.cT11
  have r11' := L.b0.fr 11
  have c12' := L.b0.cT12
  have r12' := L.b0.fr 12
  have c13' := L.b0.cT13
  have r13' := L.b0.fr 13
  have c14' := L.b0.cT14
  have r14' := L.b0.fr 14
  have c15' := L.b0.cT15
  have r15' := L.b0.fr 15
  have c16' := L.b0.cT16
  have r16' := L.b0.fr 16
  have c17' := L.b0.cT17
  have r17' := L.b0.fr 17
  have d0' := L.tl.b0.c30
  have s0' := L.tl.b0.fr 0
  have d1' := L.tl.b0.c31
  have s1' := L.tl.b0.fr 1
  have d2' := L.tl.b0.c32
  have s2' := L.tl.b0.fr 2
  (try go_wp2_with fail)
  clear x00' x10' x20' y10' y20' x01' x11' x21' y11' y21' x02' x12' x22' y12' y22' x03' x13' x23' y13' y23' x04' x14' x24' y14' y24' x05' x15' x25' y15' y25' c0' r0' c1' r1' c2' r2' c3' r3' c4' r4' c5' r5' c6' r6' c7' r7' c8' r8' c9' r9' c10' r10' c11' r11' c12' r12' c13' r13' c14' r14' c15' r15' c16' r16' c17' r17' d0' d1' d2' s0' s1' s2'
  have LP0 := ((L.putT (by omega) (by simp) (ng m1) C1 (zl m1) p1 e1 (ng n1) D1 (zl n1) q1 f1 (ng m2) C2 (zl m2) p2 e2 (ng n2) D2 (zl n2) q2 f2 (ng m3) C3 (zl m3) p3 e3 (ng n3) D3 (zl n3) q3 f3).swap.putE3 (by omega) (by simp) 0 0 0)
  have LP := LP0.varI _ rfl (ng m3) C3 (zl m3) p3 e3 (ng n3) D3 (zl n3) q3 f3
  clear LP0
  obtain ⟨W9, hW9⟩ : ∃ W9, (putE3 (put18 w3 w.heap.size (.bool (ng m1)) (.slice C1 (zl m1) p1) (.int .i64 e1) (.bool (ng n1)) (.slice D1 (zl n1) q1) (.int .i64 f1) (.bool (ng m2)) (.slice C2 (zl m2) p2) (.int .i64 e2) (.bool (ng n2)) (.slice D2 (zl n2) q2) (.int .i64 f2) (.bool (ng m3)) (.slice C3 (zl m3) p3) (.int .i64 e3) (.bool (ng n3)) (.slice D3 (zl n3) q3) (.int .i64 f3)) (w.heap.size + 1) 0 0 0).alloc (.cells #[.bool (ng m3), .slice C3 (zl m3) p3, .int .i64 e3, .bool (ng n3), .slice D3 (zl n3) q3, .int .i64 f3] 31) = W9 := ⟨_, rfl⟩
  rw [hW9] at LP
  unfold putE3 put18 at hW9
  rw [hW9]
  clear hW9 L
  have hld : (loadVar 32 ⟨w.heap.size, 0, none⟩).run Tryz.prog W9 = .ok (.agg #[.bool (ng m1), .slice C1 (zl m1) p1, .int .i64 e1, .bool (ng n1), .slice D1 (zl n1) q1, .int .i64 f1, .bool (ng m2), .slice C2 (zl m2) p2, .int .i64 e2, .bool (ng n2), .slice D2 (zl n2) q2, .int .i64 f2, .bool (ng m3), .slice C3 (zl m3) p3, .int .i64 e3, .bool (ng n3), .slice D3 (zl n3) q3, .int .i64 f3]) W9 := run_loadVar_row W9 _ _ _ _ (0, 0) (.array 3 31) LP.tl.tl.b0.1 (by kernel_rfl) rfl (by kernel_rfl)
  have hle : (loadVar 34 ⟨w.heap.size + 1, 0, none⟩).run Tryz.prog W9 = .ok (.agg #[.int .i64 0, .int .i64 0, .int .i64 0]) W9 := run_loadVar_row W9 _ _ _ _ (0, 0) (.array 3 33) LP.tl.b0.1 (by kernel_rfl) rfl (by kernel_rfl)
  refine bodyPost_ret (v := .tuple #[.agg #[.bool (ng m1), .slice C1 (zl m1) p1, .int .i64 e1, .bool (ng n1), .slice D1 (zl n1) q1, .int .i64 f1, .bool (ng m2), .slice C2 (zl m2) p2, .int .i64 e2, .bool (ng n2), .slice D2 (zl n2) q2, .int .i64 f2, .bool (ng m3), .slice C3 (zl m3) p3, .int .i64 e3, .bool (ng n3), .slice D3 (zl n3) q3, .int .i64 f3], .agg #[.int .i64 0, .int .i64 0, .int .i64 0]]) ?_ rfl ⟨_, rfl, isT_n (LP.getN (by simp)) (LP.getN (by simp)) (LP.getN (by simp)) (LP.getN (by simp)) (LP.getN (by simp)) (LP.getN (by simp)) , LP.below⟩
  rw [results_two rfl]
  simp [asAddr, Result.andThen, hld, hle]

theorem setRow_two (w : World) (t u : TypeId) (c c' d : Array Value) : ((w.alloc (.cells c t)).alloc (.cells d u)).setRow w.heap.size c' = (w.alloc (.cells c' t)).alloc (.cells d u) := by
  unfold World.setRow World.alloc
  simp only
  congr 1
  apply Array.ext_getElem?
  intro i
  rw [Array.getElem?_modify]
  by_cases h : w.heap.size = i
  · subst h
    simp [Array.getElem?_push]
  · have h' : ¬ i = w.heap.size := fun e => h e.symm
    simp [h, h', Array.getElem?_push]
theorem wp_storeRow {P : Program} (w : World) {ops : Array Oper} {rest : List Oper} {o : Oper} {a : Act} {Q : Exit → Act → World → Prop} (hg : o.guard = none) (t : TypeId) (p v : Operand) (hop : o.op = Op.store t p v) (g : Nat) (old c : Array Value)
    (hp : a.eval p = .pointer (some ⟨g, 0, none⟩)) (hv : a.eval v = .agg c) (hb : w.heap[g]? = some (.cells old t (0, 0))) (hi : (P.info? t).map (·.size) = some c.size) (ho : old.size = c.size) (h1 : c.all (·.oneCell') = true)
    (hK : wpList P ops Q rest (a.put o.dst undef) (w.setRow g c)) : wpList P ops Q (o :: rest) a w := by
  refine wpList_plain hg fun K hK' => ?_
  have hrun : (Instr.storeAt t (.pointer (some ⟨g, 0, none⟩)) (.agg c)).run P w = .ok () (w.setRow g c) := by
    simp only [Instr.storeAt, Instr.sureAddr, Sem.run_bind, Sem.run_pure, Result.andThen]
    exact run_storeVar_row _ _ _ _ _ _ hb hi ho h1
  unfold Oper.wp
  simp [execOp, hop, hp, hv, hrun, Result.andThen]
  exact hK' _ _ hK
theorem wp_storeNew2 {P : Program} (w : World) {ops : Array Oper} {rest : List Oper} {o : Oper} {a : Act} {Q : Exit → Act → World → Prop} (hg : o.guard = none) (t u : TypeId) (p v : Operand) (hop : o.op = Op.store t p v) (old c d : Array Value)
    (hp : a.eval p = .pointer (some ⟨w.heap.size, 0, none⟩)) (hv : a.eval v = .agg c) (hi : (P.info? t).map (·.size) = some c.size) (ho : old.size = c.size) (h1 : c.all (·.oneCell') = true)
    (hK : wpList P ops Q rest (a.put o.dst undef) ((w.alloc (.cells c t)).alloc (.cells d u))) : wpList P ops Q (o :: rest) a ((w.alloc (.cells old t)).alloc (.cells d u)) := by
  refine wp_storeRow _ hg t p v hop w.heap.size old c hp hv ?_ hi ho h1 ?_
  · unfold World.alloc
    simp [Array.getElem?_push]
  · rw [setRow_two]
    exact hK
/-- The row of a variable is stored anew. -/
theorem Lq.row {w0 w : World} {ns : List (Value × Nat)} {zs : List (Value × Int)} {qs : List (Value × Int × Nat)} {bs : List (Nat × TypeId × Array Value)} {g : Nat} {t : TypeId} {cs : Array Value} (h : Lq w0 w ns zs qs ((g, t, cs) :: bs)) (hg : w0.heap.size ≤ g) (hd : ∀ p ∈ bs, p.1 ≠ g) (c : Array Value) (hp : Plain c) : Lq w0 (w.setRow g c) ns zs qs ((g, t, c) :: bs) := by
  have hgl := h.b0.lt
  have hso : ∀ k, k ≠ g → (w.setRow g c).heap[k]? = w.heap[k]? := fun k hk => by
    unfold World.setRow
    simp only
    rw [Array.getElem?_modify, if_neg (fun e => hk e.symm)]
  have hss : (w.setRow g c).heap.size = w.heap.size := by
    unfold World.setRow
    simp
  have hsg : (w.setRow g c).heap[g]? = some (.cells c t (0, 0)) := by
    unfold World.setRow
    simp only
    rw [Array.getElem?_modify, if_pos rfl, h.b0.1]
    rfl
  have hN : ∀ {v : Value} {x : Nat}, IsN w v x → IsN (w.setRow g c) v x := fun {v x} hv => by
    obtain ⟨A, n, k, e, hs⟩ := hv
    refine ⟨A, n, k, e, ⟨hs.len, hs.cap, hs.most, hs.small, fun hn => ?_⟩⟩
    obtain ⟨b, off, h1, h2, h3⟩ := hs.place hn
    have hne : b ≠ g := by
      rintro rfl
      have h4 := h3 0 hn
      rw [h.b0.cell] at h4
      exact h.b0.2 _ _ h4
    refine ⟨b, off, h1, by rw [hss]; exact h2, fun i hi => ?_⟩
    rw [World.cell?_of_block (w := w) (a := ⟨b, off + i, none⟩) (hso b hne)]
    exact h3 i hi
  refine ⟨?_, fun p hp2 => hN (h.ns p hp2), fun p hp2 => ?_, fun p hp2 => ?_, all_cons (P := fun p : Nat × TypeId × Array Value => Var _ p.1 p.2.1 p.2.2) ⟨hsg, hp⟩ (fun p hp2 => ⟨?_, (h.bs p (List.mem_cons_of_mem _ hp2)).2⟩)⟩
  · exact h.below.trans ⟨rfl, rfl, rfl, by rw [hss]; exact Nat.le_refl _, fun k hk => hso k (by omega)⟩
  · obtain ⟨s, e, hs⟩ := h.zs p hp2
    exact ⟨s, e, hN hs⟩
  · obtain ⟨s, r, e, hs, hr⟩ := h.qs p hp2
    exact ⟨s, r, e, hN hs, hN hr⟩
  · rw [hso _ (hd p hp2)]
    exact (h.bs p (List.mem_cons_of_mem _ hp2)).1


end Go.Proofs.YtfnklkdbieikeaaGreatDoor
