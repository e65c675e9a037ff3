/- What is known at a point of a law's walk. -/
import Derived.Test.YtajegednakenbaaDoorMill
import Derived.Test.YtajegednakenbaaDoorLits
namespace Go.Proofs.YtajegednakenbaaDoor
open Go.RowKit
set_option linter.unusedVariables false
set_option linter.unusedSimpArgs false

/-- What is known at a point of a law's walk: nothing that was there when it began has turned, and these values stand for these numbers. -/
def Live (w0 w : World) (l : List (Value × Nat)) : Prop := Below w0.heap.size w0 w ∧ ∀ p ∈ l, IsN w p.1 p.2
theorem Live.mk {w0 w : World} (h : Below w0.heap.size w0 w) : Live w0 w [] := ⟨h, fun p hp => by cases hp⟩
theorem Live.step {w0 w w' : World} {l : List (Value × Nat)} (h : Live w0 w l) (hb : Below w.heap.size w w') : Live w0 w' l := ⟨h.1.trans (hb.mono h.1.size), fun p hp => (h.2 p hp).mono hb⟩
theorem Live.cons {w0 w : World} {l : List (Value × Nat)} (h : Live w0 w l) {v : Value} {x : Nat} (hv : IsN w v x) : Live w0 w ((v, x) :: l) :=
  ⟨h.1, fun p hp => by
    rcases List.mem_cons.1 hp with rfl | hp
    · exact hv
    · exact h.2 p hp⟩
theorem Live.add {w0 w w' : World} {l : List (Value × Nat)} (h : Live w0 w l) {v : Value} {x : Nat} (o : Out w w' v (dig x)) : Live w0 w' ((v, x) :: l) := (h.step o.below).cons o.isN
theorem Live.get {w0 w : World} {l : List (Value × Nat)} (h : Live w0 w l) {v : Value} {x : Nat} (hp : (v, x) ∈ l) : IsN w v x := h.2 (v, x) hp
theorem Live.below {w0 w : World} {l : List (Value × Nat)} (h : Live w0 w l) : Below w0.heap.size w0 w := h.1

/-- A list as a number, and whether it is short enough. -/
def RetMill (w : World) (m : Nat) (e : Ending) (w' : World) : Prop := ∃ v b x, e = .returned (.tuple #[v, .bool b]) ∧ IsN w' v x ∧ len x ≤ m ∧ Below w.heap.size w w'
theorem same_yes (x y : Nat) (va vb : Value) (w : World) (ha : IsN w va x) (hb : IsN w vb y) (h : x = y) :
    Calls Tryd.prog 47 #[va, vb] w fun e w' => e = .returned (.bool true) ∧ w = w' := by
  have := same_any x y va vb w ha hb
  rwa [show sameB x y = true from decide_eq_true h] at this

end Go.Proofs.YtajegednakenbaaDoor
