/- Words for spans: a struct of two integers. -/
import Derived.Test.YtfnklkdbieikeaaGreatDoorBaseV
namespace Go.Proofs.YtfnklkdbieikeaaGreatDoor
open Go.RowKit
set_option linter.unusedVariables false
set_option linter.unusedSimpArgs false
set_option maxRecDepth 100000
attribute [local go_sem ↓] Go.wp_at_zero Go.wp_at_succ

/-- A value stands for the span from a to b. -/
def IsS (w : World) (v : Value) (a b : Int) : Prop := ∃ s t, v = .agg #[.bool (ng a), s, .bool (ng b), t] ∧ IsN w s a.natAbs ∧ IsN w t b.natAbs
theorem IsS.mono {w w' : World} {v : Value} {a b : Int} (h : IsS w v a b) (hb : Below w.heap.size w w') : IsS w' v a b := by
  obtain ⟨s, t, r, hs, ht⟩ := h
  exact ⟨s, t, r, hs.mono hb, ht.mono hb⟩
theorem IsS.form {w : World} {v : Value} {a b : Int} (h : IsS w v a b) : ∃ A c B d, v = .agg #[.bool (ng a), .slice A (zl a) c, .bool (ng b), .slice B (zl b) d] ∧ IsN w (.slice A (zl a) c) a.natAbs ∧ IsN w (.slice B (zl b) d) b.natAbs := by
  obtain ⟨s, t, r, hs, ht⟩ := h
  obtain ⟨A, c, e1⟩ := hs.form
  obtain ⟨B, d, e2⟩ := ht.form
  subst e1 e2
  exact ⟨A, c, B, d, r, hs, ht⟩
theorem isS_n {w : World} {s t : Value} {a b : Int} (h : IsN w s a.natAbs) (h2 : IsN w t b.natAbs) : IsS w (.agg #[.bool (ng a), s, .bool (ng b), t]) a b := ⟨s, t, rfl, h, h2⟩
theorem plain4 (b : Bool) (A : Option Addr) (p c : Nat) (b' : Bool) (B : Option Addr) (q d : Nat) : Plain #[.bool b, .slice A p c, .bool b', .slice B q d] := fun j x => by
  match j with
  | 0 => simp
  | 1 => simp
  | 2 => simp
  | 3 => simp
  | j + 4 => simp
def put4 (w : World) (g : Nat) (b : Bool) (s : Value) (b' : Bool) (t : Value) : World := (((w.setCell ⟨g, 0, none⟩ (.bool b)).setCell ⟨g, 1, none⟩ s).setCell ⟨g, 2, none⟩ (.bool b')).setCell ⟨g, 3, none⟩ t
section
variable {w0 w : World} {ns : List (Value × Nat)} {zs : List (Value × Int)} {qs : List (Value × Int × Nat)} {bs : List (Nat × TypeId × Array Value)}
theorem Lq.varS (h : Lq w0 w ns zs qs bs) (g : Nat) (hg : g = w.heap.size) (b : Bool) (A : Option Addr) (p c : Nat) (b' : Bool) (B : Option Addr) (q d : Nat) : Lq w0 (w.alloc (.cells #[.bool b, .slice A p c, .bool b', .slice B q d] 57)) ns zs qs ((g, 57, #[.bool b, .slice A p c, .bool b', .slice B q d]) :: bs) := h.var g hg _ _ (plain4 _ _ _ _ _ _ _ _)
theorem Lq.putS {g : Nat} {b b' : Bool} {s t : Value} (h : Lq w0 w ns zs qs ((g, 57, #[.bool b, s, .bool b', t]) :: bs)) (hg : w0.heap.size ≤ g) (hd : ∀ p ∈ bs, p.1 ≠ g) (b1 : Bool) (A : Option Addr) (p c : Nat) (b2 : Bool) (B : Option Addr) (q d : Nat) :
    Lq w0 (put4 w g b1 (.slice A p c) b2 (.slice B q d)) ns zs qs ((g, 57, #[.bool b1, .slice A p c, .bool b2, .slice B q d]) :: bs) :=
  (((h.set hg hd 0 (.bool b1) (by intro x e; cases e)).set hg hd 1 (.slice A p c) (by intro x e; cases e)).set hg hd 2 (.bool b2) (by intro x e; cases e)).set hg hd 3 (.slice B q d) (by intro x e; cases e)
theorem Dq.boxS (h : Dq w0 w ns zs qs bs) (b : Bool) (A : Option Addr) (p c : Nat) (b' : Bool) (B : Option Addr) (q d : Nat) : Dq w0 (w.alloc (.cells #[.bool b, .slice A p c, .bool b', .slice B q d] 57)) ns zs qs ((w.heap.size, 57, #[.bool b, .slice A p c, .bool b', .slice B q d]) :: bs) := by
  refine ⟨h.lq.varS w.heap.size rfl b A p c b' B q d, ?_, fun p hp => ?_⟩
  · rw [List.map_cons, List.nodup_cons]
    refine ⟨fun hm => ?_, h.nodup⟩
    obtain ⟨p, hp, e⟩ := List.mem_map.1 hm
    have := (h.lq.bs p hp).lt
    omega
  · rcases List.mem_cons.1 hp with rfl | hp
    · exact h.lq.below.size
    · exact h.ge p hp
end
theorem Var.c40 {w : World} {g : Nat} {ty : TypeId} {x0 x1 x2 x3 : Value} (h : Var w g ty #[x0, x1, x2, x3]) : w.cell? ⟨g, 0, none⟩ = some x0 := h.cell 0
theorem Var.c41 {w : World} {g : Nat} {ty : TypeId} {x0 x1 x2 x3 : Value} (h : Var w g ty #[x0, x1, x2, x3]) : w.cell? ⟨g, 1, none⟩ = some x1 := h.cell 1
theorem Var.c42 {w : World} {g : Nat} {ty : TypeId} {x0 x1 x2 x3 : Value} (h : Var w g ty #[x0, x1, x2, x3]) : w.cell? ⟨g, 2, none⟩ = some x2 := h.cell 2
theorem Var.c43 {w : World} {g : Nat} {ty : TypeId} {x0 x1 x2 x3 : Value} (h : Var w g ty #[x0, x1, x2, x3]) : w.cell? ⟨g, 3, none⟩ = some x3 := h.cell 3
/-- A span; nothing that was there has turned. -/
def RetSp (w : World) (a b : Int) (en : Ending) (w' : World) : Prop := ∃ v, en = .returned v ∧ IsS w' v a b ∧ Below w.heap.size w w'


end Go.Proofs.YtfnklkdbieikeaaGreatDoor
