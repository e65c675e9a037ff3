/- Base texts, joined: ProdB, ProdC, RefProd, QuotC, QuotD, QuotE, RefQuot, Powmod. -/
import Derived.Test.YtmlddkiccjpoeaaGreatDoorBaseNS
import Derived.Test.YtmlddkiccjpoeaaGreatDoorBaseRS
/- Walks: bits.Len (by the library's contract), product.Power. -/
namespace Go.Proofs.YtmlddkiccjpoeaaGreatDoor
open Go.RowKit
set_option linter.unusedVariables false
set_option linter.unusedSimpArgs false
set_option maxRecDepth 100000

/-- The exponent that is left for the first digits. -/
def top (n : Nat) (t : Int) : Nat := n / 2 ^ (t + 1).toNat
end Go.Proofs.YtmlddkiccjpoeaaGreatDoor


/- Walks: product.Sum; rows of slices. -/
namespace Go.Proofs.YtmlddkiccjpoeaaGreatDoor
open Go.RowKit
set_option linter.unusedVariables false
set_option linter.unusedSimpArgs false
set_option maxRecDepth 100000

/-- A slice of naturals. -/
structure Nats (w : World) (A : Option Addr) (n : Nat) (f : Nat → Nat) : Prop where
  place : ∀ j, j < n → ∃ b off V m c, A = some ⟨b, off, none⟩ ∧ b < w.heap.size ∧ w.cell? ⟨b, off + j, none⟩ = some (.slice V m c) ∧ IsN w (.slice V m c) (f j)
theorem Nats.mono {w w' : World} {A : Option Addr} {n : Nat} {f : Nat → Nat} (h : Nats w A n f) (hb : Below w.heap.size w w') : Nats w' A n f :=
  ⟨fun j hj => by
    obtain ⟨b, off, V, m, c, h1, h2, h3, h4⟩ := h.place j hj
    exact ⟨b, off, V, m, c, h1, Nat.lt_of_lt_of_le h2 hb.size, (hb.cell (p := ⟨b, off + j, none⟩) h2).trans h3, h4.mono hb⟩⟩

def two (x y : Nat) (j : Nat) : Nat := if j = 0 then x else y
/-- Slices of naturals that a call collects one after the other: the row and the numbers are its own. -/
def Terms (w : World) (B : Nat) (v : Value) (f : Nat → Nat) (k : Nat) : Prop :=
  ∃ vs : List Value, vs.length = k ∧ w.ownsRow B 22 1 v k vs ∧ ∀ j, j < k → ∃ V m c, vs[j]? = some (.slice V m c) ∧ Own w B (.slice V m c) (dig (f j))
theorem Terms.nil (w : World) (B : Nat) (f : Nat → Nat) : Terms w B (.slice none 0 0) f 0 := ⟨[], rfl, World.ownsRow_nil w B 22 1, fun j hj => absurd hj (Nat.not_lt_zero j)⟩
theorem Terms.blockGe {w : World} {B : Nat} {v : Value} {f : Nat → Nat} {k : Nat} (h : Terms w B v f k) : ∀ g, v.ownBlock = some g → B ≤ g := by
  obtain ⟨vs, h1, h2, h3⟩ := h
  exact fun g hg => (h2.lt g hg).1
theorem ownsRow_below {w w' : World} {B k : Nat} {t : TypeId} {v : Value} {vs : List Value} (h : w.ownsRow B t 1 v k vs) (hb : Below w.heap.size w w') : w'.ownsRow B t 1 v k vs := by
  have hlt := h.lt
  obtain ⟨h1, h2⟩ := h
  refine ⟨h1, ?_⟩
  rcases h2 with h2 | ⟨g, cap, cur, e1, e2, e3, e4⟩
  · exact .inl h2
  · refine .inr ⟨g, cap, cur, e1, e2, ?_, e4⟩
    rw [hb.block g (hlt g (by rw [e1]; rfl)).2]; exact e3
theorem Terms.below {w w' : World} {B : Nat} {v : Value} {f : Nat → Nat} {k : Nat} (h : Terms w B v f k) (hb : Below w.heap.size w w') : Terms w' B v f k := by
  obtain ⟨vs, h1, h2, h3⟩ := h
  refine ⟨vs, h1, ownsRow_below h2 hb, fun j hj => ?_⟩
  obtain ⟨V, m, c, e, o⟩ := h3 j hj
  exact ⟨V, m, c, e, o.below hb⟩
end Go.Proofs.YtmlddkiccjpoeaaGreatDoor


/- Walks: the reference's Small, Mul, Power. -/
namespace Go.Proofs.YtmlddkiccjpoeaaGreatDoor
open Go.RowKit
set_option linter.unusedVariables false
set_option linter.unusedSimpArgs false
set_option maxRecDepth 100000

end Go.Proofs.YtmlddkiccjpoeaaGreatDoor


/- Walks: bits.LeadingZeros32; quotient.Small. -/
namespace Go.Proofs.YtmlddkiccjpoeaaGreatDoor
open Go.RowKit
set_option linter.unusedVariables false
set_option linter.unusedSimpArgs false
set_option maxRecDepth 100000

end Go.Proofs.YtmlddkiccjpoeaaGreatDoor


/- Walks: quotient.long. -/
namespace Go.Proofs.YtmlddkiccjpoeaaGreatDoor
open Go.RowKit
set_option linter.unusedVariables false
set_option linter.unusedSimpArgs false
set_option maxRecDepth 100000

theorem Own.lt {w : World} {base g n c : Nat} {l : List Nat} (h : Own w base (.slice (some ⟨g, 0, none⟩) n c) l) : g < w.heap.size := (h.1.lt g rfl).2

end Go.Proofs.YtmlddkiccjpoeaaGreatDoor


/- Walks: quotient.DivMod, Exact, Divides, remainder. -/
namespace Go.Proofs.YtmlddkiccjpoeaaGreatDoor
open Go.RowKit
set_option linter.unusedVariables false
set_option linter.unusedSimpArgs false
set_option maxRecDepth 100000

end Go.Proofs.YtmlddkiccjpoeaaGreatDoor


/- Walks: the reference's fits, DivMod, Div, Divides, Exact. -/
namespace Go.Proofs.YtmlddkiccjpoeaaGreatDoor
open Go.RowKit
set_option linter.unusedVariables false
set_option linter.unusedSimpArgs false
set_option maxRecDepth 100000

theorem Own.far {w : World} {base : Nat} {v : Value} {l : List Nat} (h : Own w base v l) {g j : Nat} (hg : g < base) (u : Value) : Own (w.setCell ⟨g, j, none⟩ u) base v l :=
  h.grown (grown_set (World.grownBy.refl w _) j u) (by
    rcases hv : v.ownBlock with _ | k
    · exact .inl rfl
    · refine .inr (fun e => ?_)
      have := h.blockGe k hv
      injection e with e
      omega)

end Go.Proofs.YtmlddkiccjpoeaaGreatDoor


/- Walks: Powmod, of the program and of the reference. -/
namespace Go.Proofs.YtmlddkiccjpoeaaGreatDoor
open Go.RowKit
set_option linter.unusedVariables false
set_option linter.unusedSimpArgs false
set_option maxRecDepth 100000

end Go.Proofs.YtmlddkiccjpoeaaGreatDoor

