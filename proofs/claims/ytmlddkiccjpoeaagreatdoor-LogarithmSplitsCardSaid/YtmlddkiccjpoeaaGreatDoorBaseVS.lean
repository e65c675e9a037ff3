/- Base texts, joined: IvA, IvMath, IvWays, IntTwo, ArMath, ArA. -/
import Derived.Test.YtmlddkiccjpoeaaGreatDoorBaseDS
import Derived.Test.YtmlddkiccjpoeaaGreatDoorBaseMS
/- Words for intervals: a struct of two dyadics. -/
namespace Go.Proofs.YtmlddkiccjpoeaaGreatDoor
open Go.RowKit
set_option linter.unusedVariables false
set_option linter.unusedSimpArgs false
set_option maxRecDepth 100000
attribute [local go_sem ↓] Go.wp_at_zero Go.wp_at_succ

/-- A value stands for the interval from m * 2^e to n * 2^f. -/
def IsI (w : World) (v : Value) (m e n f : Int) : Prop := ∃ s t, v = .agg #[.bool (ng m), s, .int .i64 e, .bool (ng n), t, .int .i64 f] ∧ IsN w s m.natAbs ∧ IsN w t n.natAbs
theorem IsI.mono {w w' : World} {v : Value} {m e n f : Int} (h : IsI w v m e n f) (hb : Below w.heap.size w w') : IsI w' v m e n f := by
  obtain ⟨s, t, r, hs, ht⟩ := h
  exact ⟨s, t, r, hs.mono hb, ht.mono hb⟩
theorem IsI.form {w : World} {v : Value} {m e n f : Int} (h : IsI w v m e n f) : ∃ A c B d, v = .agg #[.bool (ng m), .slice A (zl m) c, .int .i64 e, .bool (ng n), .slice B (zl n) d, .int .i64 f] ∧ IsN w (.slice A (zl m) c) m.natAbs ∧ IsN w (.slice B (zl n) d) n.natAbs := by
  obtain ⟨s, t, r, hs, ht⟩ := h
  obtain ⟨A, c, e1⟩ := hs.form
  obtain ⟨B, d, e2⟩ := ht.form
  subst e1 e2
  exact ⟨A, c, B, d, r, hs, ht⟩
theorem isI_n {w : World} {s t : Value} {m e n f : Int} (h : IsN w s m.natAbs) (h2 : IsN w t n.natAbs) : IsI w (.agg #[.bool (ng m), s, .int .i64 e, .bool (ng n), t, .int .i64 f]) m e n f := ⟨s, t, rfl, h, h2⟩
theorem isI_zero (w : World) : IsI w (.agg #[.bool false, .slice none 0 0, .int .i64 0, .bool false, .slice none 0 0, .int .i64 0]) 0 0 0 0 := ⟨_, _, rfl, IsN.zero w, IsN.zero w⟩
theorem plain6 (b : Bool) (A : Option Addr) (p c : Nat) (e : Int) (b' : Bool) (B : Option Addr) (q d : Nat) (f : Int) : Plain #[.bool b, .slice A p c, .int .i64 e, .bool b', .slice B q d, .int .i64 f] := fun j x => by
  match j with
  | 0 => simp
  | 1 => simp
  | 2 => simp
  | 3 => simp
  | 4 => simp
  | 5 => simp
  | j + 6 => simp
def put6 (w : World) (g : Nat) (b : Bool) (s t : Value) (b' : Bool) (s' t' : Value) : World := (((((w.setCell ⟨g, 0, none⟩ (.bool b)).setCell ⟨g, 1, none⟩ s).setCell ⟨g, 2, none⟩ t).setCell ⟨g, 3, none⟩ (.bool b')).setCell ⟨g, 4, none⟩ s').setCell ⟨g, 5, none⟩ t'
section
variable {w0 w : World} {ns : List (Value × Nat)} {zs : List (Value × Int)} {qs : List (Value × Int × Nat)} {bs : List (Nat × TypeId × Array Value)}
theorem Lq.varI (h : Lq w0 w ns zs qs bs) (g : Nat) (hg : g = w.heap.size) (b : Bool) (A : Option Addr) (p c : Nat) (e : Int) (b' : Bool) (B : Option Addr) (q d : Nat) (f : Int) : Lq w0 (w.alloc (.cells #[.bool b, .slice A p c, .int .i64 e, .bool b', .slice B q d, .int .i64 f] 28)) ns zs qs ((g, 28, #[.bool b, .slice A p c, .int .i64 e, .bool b', .slice B q d, .int .i64 f]) :: bs) := h.var g hg _ _ (plain6 _ _ _ _ _ _ _ _ _ _)
theorem Lq.putI {g : Nat} {b b' : Bool} {s t s' t' : Value} (h : Lq w0 w ns zs qs ((g, 28, #[.bool b, s, t, .bool b', s', t']) :: bs)) (hg : w0.heap.size ≤ g) (hd : ∀ p ∈ bs, p.1 ≠ g) (b1 : Bool) (A : Option Addr) (p c : Nat) (e : Int) (b2 : Bool) (B : Option Addr) (q d : Nat) (f : Int) :
    Lq w0 (put6 w g b1 (.slice A p c) (.int .i64 e) b2 (.slice B q d) (.int .i64 f)) ns zs qs ((g, 28, #[.bool b1, .slice A p c, .int .i64 e, .bool b2, .slice B q d, .int .i64 f]) :: bs) :=
  (((((h.set hg hd 0 (.bool b1) (by intro x e; cases e)).set hg hd 1 (.slice A p c) (by intro x e; cases e)).set hg hd 2 (.int .i64 e) (by intro x e; cases e)).set hg hd 3 (.bool b2) (by intro x e; cases e)).set hg hd 4 (.slice B q d) (by intro x e; cases e)).set hg hd 5 (.int .i64 f) (by intro x e; cases e)
end
theorem Var.c60 {w : World} {g : Nat} {ty : TypeId} {x0 x1 x2 x3 x4 x5 : Value} (h : Var w g ty #[x0, x1, x2, x3, x4, x5]) : w.cell? ⟨g, 0, none⟩ = some x0 := h.cell 0
theorem Var.c61 {w : World} {g : Nat} {ty : TypeId} {x0 x1 x2 x3 x4 x5 : Value} (h : Var w g ty #[x0, x1, x2, x3, x4, x5]) : w.cell? ⟨g, 1, none⟩ = some x1 := h.cell 1
theorem Var.c62 {w : World} {g : Nat} {ty : TypeId} {x0 x1 x2 x3 x4 x5 : Value} (h : Var w g ty #[x0, x1, x2, x3, x4, x5]) : w.cell? ⟨g, 2, none⟩ = some x2 := h.cell 2
theorem Var.c63 {w : World} {g : Nat} {ty : TypeId} {x0 x1 x2 x3 x4 x5 : Value} (h : Var w g ty #[x0, x1, x2, x3, x4, x5]) : w.cell? ⟨g, 3, none⟩ = some x3 := h.cell 3
theorem Var.c64 {w : World} {g : Nat} {ty : TypeId} {x0 x1 x2 x3 x4 x5 : Value} (h : Var w g ty #[x0, x1, x2, x3, x4, x5]) : w.cell? ⟨g, 4, none⟩ = some x4 := h.cell 4
theorem Var.c65 {w : World} {g : Nat} {ty : TypeId} {x0 x1 x2 x3 x4 x5 : Value} (h : Var w g ty #[x0, x1, x2, x3, x4, x5]) : w.cell? ⟨g, 5, none⟩ = some x5 := h.cell 5
/-- An interval; with a bool; with an error; nothing that was there has turned. -/
def RetI6 (w : World) (m e n f : Int) (en : Ending) (w' : World) : Prop := ∃ v, en = .returned v ∧ IsI w' v m e n f ∧ Below w.heap.size w w'
def RetIE (w : World) (m e n f er : Int) (en : Ending) (w' : World) : Prop := ∃ v, en = .returned (.tuple #[v, .int .i64 er]) ∧ IsI w' v m e n f ∧ Below w.heap.size w w'
/-- How two dyadics lie. -/
def dcm (m e n f : Int) : Int := cmpI (m * 2 ^ (e - min e f).toNat) (n * 2 ^ (f - min e f).toNat)


end Go.Proofs.YtmlddkiccjpoeaaGreatDoor


/- Intervals of dyadics: how ends lie, as fractions. -/
namespace Go.Proofs.YtmlddkiccjpoeaaGreatDoor
open Go.RowKit
set_option linter.unusedVariables false
set_option linter.unusedSimpArgs false
set_option maxRecDepth 100000
attribute [local go_sem ↓] Go.wp_at_zero Go.wp_at_succ

theorem dq_le_iff (C D F : Int) : dq C F ≤ dq D F ↔ C ≤ D := by
  rw [dq_scale C, dq_scale D]
  constructor
  · intro h
    exact Rat.intCast_le_intCast.1 (Rat.le_of_mul_le_mul_right h (dq_pos F))
  · intro h
    exact Rat.mul_le_mul_of_nonneg_right (Rat.intCast_le_intCast.2 h) (Rat.le_of_lt (dq_pos F))
theorem cmpI_le (a b : Int) : cmpI a b ≤ 0 ↔ a ≤ b := by
  unfold cmpI
  (repeat' split) <;> omega
theorem dcm_le (m e n f : Int) : dcm m e n f ≤ 0 ↔ dq m e ≤ dq n f := by
  have h1 : dq m e = dq (m * 2 ^ (e - min e f).toNat) (min e f) := dq_eq (F := min e f) (by rw [show min e f - min e f = 0 by omega]; simp) (by omega) (by omega)
  have h2 : dq n f = dq (n * 2 ^ (f - min e f).toNat) (min e f) := dq_eq (F := min e f) (by rw [show min e f - min e f = 0 by omega]; simp) (by omega) (by omega)
  rw [h1, h2, dq_le_iff]
  exact cmpI_le _ _
theorem dcm_swap (m e n f : Int) : dcm n f m e = -dcm m e n f := by
  unfold dcm
  rw [Int.min_comm f e]
  exact cmpI_neg _ _
theorem dcm_ge (m e n f : Int) : 0 ≤ dcm m e n f ↔ dq n f ≤ dq m e := by
  rw [← dcm_le, dcm_swap]
  omega
theorem dcm_lt (m e n f : Int) : dcm m e n f < 0 ↔ dq m e < dq n f := by
  rw [← Rat.not_le, ← dcm_ge]
  omega
end Go.Proofs.YtmlddkiccjpoeaaGreatDoor


/- A new variable that holds an interval, made in a statement that draws its order. -/
namespace Go.Proofs.YtmlddkiccjpoeaaGreatDoor
open Go.RowKit
set_option linter.unusedVariables false
set_option linter.unusedSimpArgs false
set_option maxRecDepth 100000
attribute [local go_sem ↓] Go.wp_at_zero Go.wp_at_succ

section
variable {w0 w : World} {ns : List (Value × Nat)} {zs : List (Value × Int)} {qs : List (Value × Int × Nat)} {bs : List (Nat × TypeId × Array Value)}
theorem Dq.putI (g : Nat) {b1 b2 : Bool} {s t s' t' : Value} (h : Dq w0 w ns zs qs ((g, 28, #[.bool b1, s, t, .bool b2, s', t']) :: bs)) (b : Bool) (A : Option Addr) (p c : Nat) (e : Int) (b' : Bool) (B : Option Addr) (q d : Nat) (f : Int) : Dq w0 (put6 w g b (.slice A p c) (.int .i64 e) b' (.slice B q d) (.int .i64 f)) ns zs qs ((g, 28, #[.bool b, .slice A p c, .int .i64 e, .bool b', .slice B q d, .int .i64 f]) :: bs) := by
  have hn := h.nodup
  rw [List.map_cons, List.nodup_cons] at hn
  refine ⟨h.lq.putI (h.ge _ (List.mem_cons_self ..)) (fun p hp e => hn.1 (List.mem_map.2 ⟨p, hp, e⟩)) b A p c e b' B q d f, ?_, fun p hp => ?_⟩
  · rw [List.map_cons, List.nodup_cons]; exact hn
  · rcases List.mem_cons.1 hp with rfl | hp
    · exact h.ge (g, 28, #[.bool b1, s, t, .bool b2, s', t']) (List.mem_cons_self ..)
    · exact h.ge p (List.mem_cons_of_mem _ hp)
end

section
variable {w0 w : World} {ns : List (Value × Nat)} {zs : List (Value × Int)} {qs : List (Value × Int × Nat)} {m e n f : Int} {c d : Nat} {A B : Option Addr}
end

end Go.Proofs.YtmlddkiccjpoeaaGreatDoor


/- Two new variables that hold integers, made in one statement, in whatever order; where they lie. -/
namespace Go.Proofs.YtmlddkiccjpoeaaGreatDoor
open Go.RowKit
set_option linter.unusedVariables false
set_option linter.unusedSimpArgs false
set_option maxRecDepth 100000
attribute [local go_sem ↓] Go.wp_at_zero Go.wp_at_succ

section
variable {w0 w : World} {ns : List (Value × Nat)} {zs : List (Value × Int)} {qs : List (Value × Int × Nat)} {bs : List (Nat × TypeId × Array Value)}
end

section
variable {w0 w : World} {ns : List (Value × Nat)} {zs : List (Value × Int)} {qs : List (Value × Int × Nat)} {a1 a2 : Int} {A1 A2 : Option Addr} {c1 c2 : Nat}
end

end Go.Proofs.YtmlddkiccjpoeaaGreatDoor


/- Arithmetic of intervals of fractions: sums, products, quotients of what lies between two ends. -/
namespace Go.Proofs.YtmlddkiccjpoeaaGreatDoor
open Go.RowKit
set_option linter.unusedVariables false
set_option linter.unusedSimpArgs false
set_option maxRecDepth 100000
attribute [local go_sem ↓] Go.wp_at_zero Go.wp_at_succ

theorem inv_pos {x : Rat} (h : 0 < x) : 0 < x⁻¹ := Rat.inv_pos.2 h
end Go.Proofs.YtmlddkiccjpoeaaGreatDoor


/- Words for pairs of fractions (an array of two). -/
namespace Go.Proofs.YtmlddkiccjpoeaaGreatDoor
open Go.RowKit
set_option linter.unusedVariables false
set_option linter.unusedSimpArgs false
set_option maxRecDepth 100000
attribute [local go_sem ↓] Go.wp_at_zero Go.wp_at_succ

/-- A value stands for the two fractions a / d and b / q. -/
def IsE (w : World) (v : Value) (a : Int) (d : Nat) (b : Int) (q : Nat) : Prop := ∃ s t s' t', v = .agg #[.bool (ng a), s, t, .bool (ng b), s', t'] ∧ IsN w s a.natAbs ∧ IsN w t d ∧ IsN w s' b.natAbs ∧ IsN w t' q
theorem IsE.mono {w w' : World} {v : Value} {a b : Int} {d q : Nat} (h : IsE w v a d b q) (hb : Below w.heap.size w w') : IsE w' v a d b q := by
  obtain ⟨s, t, s', t', r, h1, h2, h3, h4⟩ := h
  exact ⟨s, t, s', t', r, h1.mono hb, h2.mono hb, h3.mono hb, h4.mono hb⟩
theorem IsE.form {w : World} {v : Value} {a b : Int} {d q : Nat} (h : IsE w v a d b q) : ∃ A c B k A' c' B' k', v = .agg #[.bool (ng a), .slice A (zl a) c, .slice B (len d) k, .bool (ng b), .slice A' (zl b) c', .slice B' (len q) k'] ∧ IsP w (.agg #[.bool (ng a), .slice A (zl a) c, .slice B (len d) k]) a d ∧ IsP w (.agg #[.bool (ng b), .slice A' (zl b) c', .slice B' (len q) k']) b q := by
  obtain ⟨s, t, s', t', r, h1, h2, h3, h4⟩ := h
  obtain ⟨A, c, e1⟩ := h1.form
  obtain ⟨B, k, e2⟩ := h2.form
  obtain ⟨A', c', e3⟩ := h3.form
  obtain ⟨B', k', e4⟩ := h4.form
  subst e1 e2 e3 e4
  exact ⟨A, c, B, k, A', c', B', k', r, ⟨_, _, rfl, h1, h2⟩, ⟨_, _, rfl, h3, h4⟩⟩
section
variable {w0 w : World} {ns : List (Value × Nat)} {zs : List (Value × Int)} {qs : List (Value × Int × Nat)} {bs : List (Nat × TypeId × Array Value)}
end
end Go.Proofs.YtmlddkiccjpoeaaGreatDoor

