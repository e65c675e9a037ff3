/- The program's fractions: lowest, times, Make, Of, Sign, Neg, Mul, Cmp, Div. -/
import Derived.Test.YtgjljalcgiddgaaDoorBaseD
import Derived.Test.YtgjljalcgiddgaaDoorBaseS
import Derived.Test.YtgjljalcgiddgaaDoorBaseI
import Derived.Test.YtgjljalcgiddgaaDoorBaseN
import Derived.Deep.RegionHeld3
import Derived.Deep.DrawnRows
namespace Go.Proofs.YtgjljalcgiddgaaDoor
open Go.RowKit
set_option linter.unusedVariables false
set_option linter.unusedSimpArgs false
set_option maxRecDepth 100000
attribute [local go_sem ↓] Go.wp_at_zero Go.wp_at_succ

theorem trimP_any (x : Nat) (v : Value) (w : World) (h : IsN w v x) (hx : len x ≤ 1000000) : Calls Tryd.prog 101 #[v] w (RetN w x) := by
  obtain ⟨A, n, c, rfl, hs⟩ := h
  have hl := hs.len
  rw [length_dig] at hl
  have := trim_any _ A n c w hs (by omega)
  rwa [trim_dig] at this
theorem Lq.swap3 {w0 w : World} {ns : List (Value × Nat)} {zs : List (Value × Int)} {qs : List (Value × Int × Nat)} {bs : List (Nat × TypeId × Array Value)} {p q r : Nat × TypeId × Array Value} (h : Lq w0 w ns zs qs (p :: q :: r :: bs)) : Lq w0 w ns zs qs (q :: r :: p :: bs) :=
  ⟨h.below, h.ns, h.zs, h.qs, fun t ht => h.bs t (by simp only [List.mem_cons] at ht ⊢; rcases ht with h | h | h | h <;> simp [h])⟩
theorem isZ_nat {w : World} {s : Value} {d : Nat} (h : IsN w s d) : IsZ w (.agg #[.bool false, s]) (d : Int) := ⟨s, by rw [ng_nat], by rw [Int.natAbs_natCast]; exact h⟩
theorem divInt_nat (n : Int) (m : Nat) (h : 0 < m) : (Rat.divInt n (m : Int)).num = sg (ng n) (n.natAbs / Nat.gcd n.natAbs m) ∧ (Rat.divInt n (m : Int)).den = m / Nat.gcd n.natAbs m := by
  obtain ⟨e1, e2⟩ := divInt_pair n (m : Int) (by omega)
  rw [e1, e2, ng_nat, Int.natAbs_natCast]
  refine ⟨?_, rfl⟩
  cases ng n <;> rfl
theorem divInt_neg (n m : Int) : Rat.divInt (-n) (-m) = Rat.divInt n m := Rat.neg_divInt_neg n m

end Go.Proofs.YtgjljalcgiddgaaDoor
