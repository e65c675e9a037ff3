/- Two new variables that hold integers, made in one statement, in whatever order; where they lie. -/
import Derived.Test.YtgcmdlannbobgaaDoorBaseD
namespace Go.Proofs.YtgcmdlannbobgaaDoor
open Go.RowKit
set_option linter.unusedVariables false
set_option linter.unusedSimpArgs false
set_option maxRecDepth 100000
attribute [local go_sem ↓] Go.wp_at_zero Go.wp_at_succ

section
variable {w0 w : World} {ns : List (Value × Nat)} {zs : List (Value × Int)} {qs : List (Value × Int × Nat)} {bs : List (Nat × TypeId × Array Value)}
theorem Dq.boxZ2 (h : Dq w0 w ns zs qs bs) (b : Bool) (A : Option Addr) (n c : Nat) (b' : Bool) (A' : Option Addr) (n' c' : Nat) : Dq w0 ((w.alloc (.cells #[.bool b, .slice A n c] 24)).alloc (.cells #[.bool b', .slice A' n' c'] 24)) ns zs qs ((w.heap.size + 1, 24, #[.bool b', .slice A' n' c']) :: (w.heap.size, 24, #[.bool b, .slice A n c]) :: bs) := by
  have := (h.boxZ b A n c).boxZ b' A' n' c'
  rwa [show (w.alloc (.cells #[.bool b, .slice A n c] 24)).heap.size = w.heap.size + 1 from by simp] at this
theorem Dq.boxMZ2 (h : Dq w0 w ns zs qs bs) {k : Nat} (hk : w.heap.size = k) (b : Bool) (A : Option Addr) (n c : Nat) (b' : Bool) (A' : Option Addr) (n' c' : Nat) : Dq w0 ((w.alloc (.cells #[.bool b, .slice A n c] 24)).alloc (.cells #[.bool b', .slice A' n' c'] 24)) ns zs qs ((k + 1, 24, #[.bool b', .slice A' n' c']) :: (k, 24, #[.bool b, .slice A n c]) :: bs) := by
  subst hk; exact h.boxZ2 b A n c b' A' n' c'
theorem put2_size (w : World) (g : Nat) (b : Bool) (s : Value) : (put2 w g b s).heap.size = w.heap.size := by
  unfold put2
  simp
end

/-- Two new variables, each with its integer. -/
def Made2Z (w0 : World) (a1 a2 : Int) (s1 s2 : Value) (w' : World) : Prop := ∃ g1 g2 A1 c1 A2 c2, s1 = (.pointer (some ⟨g1, 0, none⟩)) ∧ s2 = (.pointer (some ⟨g2, 0, none⟩)) ∧ w0.heap.size ≤ g1 ∧ w0.heap.size ≤ g2 ∧ g1 ≠ g2 ∧ Below w0.heap.size w0 w' ∧ Var w' g1 24 #[.bool (ng a1), .slice A1 (zl a1) c1] ∧ Var w' g2 24 #[.bool (ng a2), .slice A2 (zl a2) c2] ∧ IsZ w' (.agg #[.bool (ng a1), .slice A1 (zl a1) c1]) a1 ∧ IsZ w' (.agg #[.bool (ng a2), .slice A2 (zl a2) c2]) a2
section
variable {w0 w : World} {ns : List (Value × Nat)} {zs : List (Value × Int)} {qs : List (Value × Int × Nat)} {a1 a2 : Int} {A1 A2 : Option Addr} {c1 c2 : Nat}
theorem made2z_of {w' : World} {g1 g2 : Nat} (D : Dq w0 w' ns zs qs [(g1, 24, #[.bool (ng a1), .slice A1 (zl a1) c1]), (g2, 24, #[.bool (ng a2), .slice A2 (zl a2) c2])]) (h1 : (.agg #[.bool (ng a1), .slice A1 (zl a1) c1], a1) ∈ zs) (h2 : (.agg #[.bool (ng a2), .slice A2 (zl a2) c2], a2) ∈ zs) : Made2Z w0 a1 a2 (.pointer (some ⟨g1, 0, none⟩)) (.pointer (some ⟨g2, 0, none⟩)) w' :=
  ⟨g1, g2, A1, c1, A2, c2, rfl, rfl, D.ge _ (List.mem_cons_self ..), D.swap.ge _ (List.mem_cons_self ..), D.n01.1, D.lq.below, D.lq.b0, D.lq.tl.b0, D.getZ h1, D.getZ h2⟩
theorem made2z_a (D : Dq w0 w ns zs qs []) (h1 : (.agg #[.bool (ng a1), .slice A1 (zl a1) c1], a1) ∈ zs) (h2 : (.agg #[.bool (ng a2), .slice A2 (zl a2) c2], a2) ∈ zs) : Made2Z w0 a1 a2 (.pointer (some ⟨w.heap.size, 0, none⟩)) (.pointer (some ⟨w.heap.size + 1, 0, none⟩)) ((w.alloc (.cells #[.bool (ng a1), .slice A1 (zl a1) c1] 24)).alloc (.cells #[.bool (ng a2), .slice A2 (zl a2) c2] 24)) :=
  made2z_of (D.boxZ2 _ _ _ _ _ _ _ _).swap h1 h2
theorem made2z_b (D : Dq w0 w ns zs qs []) (h1 : (.agg #[.bool (ng a1), .slice A1 (zl a1) c1], a1) ∈ zs) (h2 : (.agg #[.bool (ng a2), .slice A2 (zl a2) c2], a2) ∈ zs) : Made2Z w0 a1 a2 (.pointer (some ⟨w.heap.size + 1, 0, none⟩)) (.pointer (some ⟨w.heap.size, 0, none⟩)) ((w.alloc (.cells #[.bool (ng a2), .slice A2 (zl a2) c2] 24)).alloc (.cells #[.bool (ng a1), .slice A1 (zl a1) c1] 24)) :=
  made2z_of (D.boxZ2 _ _ _ _ _ _ _ _) h1 h2
theorem made2z_c {g : Nat} {b : Bool} {s : Value} (D : Dq w0 w ns zs qs [(g, 24, #[.bool b, s])]) (h1 : (.agg #[.bool (ng a1), .slice A1 (zl a1) c1], a1) ∈ zs) (h2 : (.agg #[.bool (ng a2), .slice A2 (zl a2) c2], a2) ∈ zs) : Made2Z w0 a1 a2 (.pointer (some ⟨g, 0, none⟩)) (.pointer (some ⟨w.heap.size, 0, none⟩)) (((w.setCell ⟨g, 0, none⟩ (.bool (ng a1))).setCell ⟨g, 1, none⟩ (.slice A1 (zl a1) c1)).alloc (.cells #[.bool (ng a2), .slice A2 (zl a2) c2] 24)) :=
  made2z_of ((D.putZ g (ng a1) A1 (zl a1) c1).boxMZ (put2_size _ _ _ _) _ _ _ _).swap h1 h2
theorem made2z_d {g : Nat} {b : Bool} {s : Value} (D : Dq w0 w ns zs qs [(g, 24, #[.bool b, s])]) (h1 : (.agg #[.bool (ng a1), .slice A1 (zl a1) c1], a1) ∈ zs) (h2 : (.agg #[.bool (ng a2), .slice A2 (zl a2) c2], a2) ∈ zs) : Made2Z w0 a1 a2 (.pointer (some ⟨w.heap.size, 0, none⟩)) (.pointer (some ⟨g, 0, none⟩)) (((w.setCell ⟨g, 0, none⟩ (.bool (ng a2))).setCell ⟨g, 1, none⟩ (.slice A2 (zl a2) c2)).alloc (.cells #[.bool (ng a1), .slice A1 (zl a1) c1] 24)) :=
  made2z_of ((D.putZ g (ng a2) A2 (zl a2) c2).boxMZ (put2_size _ _ _ _) _ _ _ _) h1 h2
theorem made2z_e {g k : Nat} {b b' : Bool} {s s' : Value} (D : Dq w0 w ns zs qs [(k, 24, #[.bool b', s']), (g, 24, #[.bool b, s])]) (h1 : (.agg #[.bool (ng a1), .slice A1 (zl a1) c1], a1) ∈ zs) (h2 : (.agg #[.bool (ng a2), .slice A2 (zl a2) c2], a2) ∈ zs) : Made2Z w0 a1 a2 (.pointer (some ⟨g, 0, none⟩)) (.pointer (some ⟨k, 0, none⟩)) ((((w.setCell ⟨g, 0, none⟩ (.bool (ng a1))).setCell ⟨g, 1, none⟩ (.slice A1 (zl a1) c1)).setCell ⟨k, 0, none⟩ (.bool (ng a2))).setCell ⟨k, 1, none⟩ (.slice A2 (zl a2) c2)) :=
  made2z_of ((D.swap.putZ g (ng a1) A1 (zl a1) c1).swap.putZ k (ng a2) A2 (zl a2) c2).swap h1 h2
theorem made2z_f {g k : Nat} {b b' : Bool} {s s' : Value} (D : Dq w0 w ns zs qs [(g, 24, #[.bool b, s]), (k, 24, #[.bool b', s'])]) (h1 : (.agg #[.bool (ng a1), .slice A1 (zl a1) c1], a1) ∈ zs) (h2 : (.agg #[.bool (ng a2), .slice A2 (zl a2) c2], a2) ∈ zs) : Made2Z w0 a1 a2 (.pointer (some ⟨g, 0, none⟩)) (.pointer (some ⟨k, 0, none⟩)) ((((w.setCell ⟨g, 0, none⟩ (.bool (ng a1))).setCell ⟨g, 1, none⟩ (.slice A1 (zl a1) c1)).setCell ⟨k, 0, none⟩ (.bool (ng a2))).setCell ⟨k, 1, none⟩ (.slice A2 (zl a2) c2)) :=
  made2z_of ((D.putZ g (ng a1) A1 (zl a1) c1).swap.putZ k (ng a2) A2 (zl a2) c2).swap h1 h2
end

end Go.Proofs.YtgcmdlannbobgaaDoor
