/- A new variable that holds an interval, made in a statement that draws its order. -/
import Derived.Test.YtgcmdlannbobgaaDoorIvA
import Derived.Test.YtgcmdlannbobgaaDoorBaseD
namespace Go.Proofs.YtgcmdlannbobgaaDoor
open Go.RowKit
set_option linter.unusedVariables false
set_option linter.unusedSimpArgs false
set_option maxRecDepth 100000
attribute [local go_sem ↓] Go.wp_at_zero Go.wp_at_succ

section
variable {w0 w : World} {ns : List (Value × Nat)} {zs : List (Value × Int)} {qs : List (Value × Int × Nat)} {bs : List (Nat × TypeId × Array Value)}
theorem Dq.boxI (h : Dq w0 w ns zs qs bs) (b : Bool) (A : Option Addr) (p c : Nat) (e : Int) (b' : Bool) (B : Option Addr) (q d : Nat) (f : Int) : Dq w0 (w.alloc (.cells #[.bool b, .slice A p c, .int .i64 e, .bool b', .slice B q d, .int .i64 f] 28)) ns zs qs ((w.heap.size, 28, #[.bool b, .slice A p c, .int .i64 e, .bool b', .slice B q d, .int .i64 f]) :: bs) := by
  refine ⟨h.lq.varI w.heap.size rfl b A p c e b' B q d f, ?_, fun p hp => ?_⟩
  · rw [List.map_cons, List.nodup_cons]
    refine ⟨fun hm => ?_, h.nodup⟩
    obtain ⟨p, hp, e⟩ := List.mem_map.1 hm
    have := (h.lq.bs p hp).lt
    omega
  · rcases List.mem_cons.1 hp with rfl | hp
    · exact h.lq.below.size
    · exact h.ge p hp
theorem Dq.boxMI (h : Dq w0 w ns zs qs bs) {k : Nat} (hk : w.heap.size = k) (b : Bool) (A : Option Addr) (p c : Nat) (e : Int) (b' : Bool) (B : Option Addr) (q d : Nat) (f : Int) : Dq w0 (w.alloc (.cells #[.bool b, .slice A p c, .int .i64 e, .bool b', .slice B q d, .int .i64 f] 28)) ns zs qs ((k, 28, #[.bool b, .slice A p c, .int .i64 e, .bool b', .slice B q d, .int .i64 f]) :: bs) := by
  subst hk; exact h.boxI b A p c e b' B q d f
theorem Dq.putI (g : Nat) {b1 b2 : Bool} {s t s' t' : Value} (h : Dq w0 w ns zs qs ((g, 28, #[.bool b1, s, t, .bool b2, s', t']) :: bs)) (b : Bool) (A : Option Addr) (p c : Nat) (e : Int) (b' : Bool) (B : Option Addr) (q d : Nat) (f : Int) : Dq w0 (put6 w g b (.slice A p c) (.int .i64 e) b' (.slice B q d) (.int .i64 f)) ns zs qs ((g, 28, #[.bool b, .slice A p c, .int .i64 e, .bool b', .slice B q d, .int .i64 f]) :: bs) := by
  have hn := h.nodup
  rw [List.map_cons, List.nodup_cons] at hn
  refine ⟨h.lq.putI (h.ge _ (List.mem_cons_self ..)) (fun p hp e => hn.1 (List.mem_map.2 ⟨p, hp, e⟩)) b A p c e b' B q d f, ?_, fun p hp => ?_⟩
  · rw [List.map_cons, List.nodup_cons]; exact hn
  · rcases List.mem_cons.1 hp with rfl | hp
    · exact h.ge (g, 28, #[.bool b1, s, t, .bool b2, s', t']) (List.mem_cons_self ..)
    · exact h.ge p (List.mem_cons_of_mem _ hp)
end

/-- A new variable, with its interval. -/
def Made1I (w0 : World) (m e n f : Int) (s : Value) (w' : World) : Prop := ∃ g A c B d, s = .pointer (some ⟨g, 0, none⟩) ∧ w0.heap.size ≤ g ∧ Below w0.heap.size w0 w' ∧ Var w' g 28 #[.bool (ng m), .slice A (zl m) c, .int .i64 e, .bool (ng n), .slice B (zl n) d, .int .i64 f] ∧ IsN w' (.slice A (zl m) c) m.natAbs ∧ IsN w' (.slice B (zl n) d) n.natAbs
section
variable {w0 w : World} {ns : List (Value × Nat)} {zs : List (Value × Int)} {qs : List (Value × Int × Nat)} {m e n f : Int} {c d : Nat} {A B : Option Addr}
theorem made1i_of {w' : World} {g : Nat} (D : Dq w0 w' ns zs qs [(g, 28, #[.bool (ng m), .slice A (zl m) c, .int .i64 e, .bool (ng n), .slice B (zl n) d, .int .i64 f])]) (h : (.slice A (zl m) c, m.natAbs) ∈ ns) (h2 : (.slice B (zl n) d, n.natAbs) ∈ ns) : Made1I w0 m e n f (.pointer (some ⟨g, 0, none⟩)) w' :=
  ⟨g, A, c, B, d, rfl, D.ge _ (List.mem_cons_self ..), D.lq.below, D.lq.b0, D.getN h, D.getN h2⟩
theorem made1i_a (D : Dq w0 w ns zs qs []) (h : (.slice A (zl m) c, m.natAbs) ∈ ns) (h2 : (.slice B (zl n) d, n.natAbs) ∈ ns) :
    Made1I w0 m e n f (.pointer (some ⟨w.heap.size, 0, none⟩)) (w.alloc (.cells #[.bool (ng m), .slice A (zl m) c, .int .i64 e, .bool (ng n), .slice B (zl n) d, .int .i64 f] 28)) := made1i_of (D.boxI _ _ _ _ _ _ _ _ _ _) h h2
theorem made1i_b {g : Nat} {b1 b2 : Bool} {s t s' t' : Value} (D : Dq w0 w ns zs qs [(g, 28, #[.bool b1, s, t, .bool b2, s', t'])]) (h : (.slice A (zl m) c, m.natAbs) ∈ ns) (h2 : (.slice B (zl n) d, n.natAbs) ∈ ns) :
    Made1I w0 m e n f (.pointer (some ⟨g, 0, none⟩)) ((((((w.setCell ⟨g, 0, none⟩ (.bool (ng m))).setCell ⟨g, 1, none⟩ (.slice A (zl m) c)).setCell ⟨g, 2, none⟩ (.int .i64 e)).setCell ⟨g, 3, none⟩ (.bool (ng n))).setCell ⟨g, 4, none⟩ (.slice B (zl n) d)).setCell ⟨g, 5, none⟩ (.int .i64 f)) := made1i_of (D.putI g (ng m) A (zl m) c e (ng n) B (zl n) d f) h h2
end

end Go.Proofs.YtgcmdlannbobgaaDoor
