/- Base texts, joined: IvPA, ArPA, ArPC. -/
import Derived.Test.YtmlddkiccjpoeaaGreatDoorBaseWS
import Derived.Test.YtmlddkiccjpoeaaGreatDoorBaseGS
import Derived.Deep.RegionHeld3
import Derived.Deep.DrawnRows
import Derived.Test.YtmlddkiccjpoeaaGreatDoorBaseXS
import Derived.Test.YtmlddkiccjpoeaaGreatDoorGrPCS
import Derived.Test.YtmlddkiccjpoeaaGreatDoorBaseVS
import Derived.Deep.Cut
import Derived.Deep.CutRange
/- The program's interval: atMost, lesser, greater, Valid, Within, Cmp, Same, Sign. -/
namespace Go.Proofs.YtmlddkiccjpoeaaGreatDoor
open Go.RowKit
set_option linter.unusedVariables false
set_option linter.unusedSimpArgs false
set_option maxRecDepth 100000
attribute [local go_sem ↓] Go.wp_at_zero Go.wp_at_succ

end Go.Proofs.YtmlddkiccjpoeaaGreatDoor


/- The program's arith: permitted, isEnd, Small. -/
namespace Go.Proofs.YtmlddkiccjpoeaaGreatDoor
open Go.RowKit
set_option linter.unusedVariables false
set_option linter.unusedSimpArgs false
set_option maxRecDepth 100000
attribute [local go_sem ↓] Go.wp_at_zero Go.wp_at_succ

end Go.Proofs.YtmlddkiccjpoeaaGreatDoor


/- Rows of dyadics; slices.MinFunc and slices.MaxFunc over them. -/
namespace Go.Proofs.YtmlddkiccjpoeaaGreatDoor
open Go.RowKit
set_option linter.unusedVariables false
set_option linter.unusedSimpArgs false
set_option maxRecDepth 100000
attribute [local go_sem ↓] Go.wp_at_zero Go.wp_at_succ

/-- A slice of dyadics: what its elements stand for. -/
def RowD (w : World) (v : Value) (l : List (Int × Int)) : Prop := ∃ g c, v = .slice (some ⟨g, 0, none⟩) l.length c ∧ g < w.heap.size ∧ ∀ (j : Nat) (p : Int × Int), l[j]? = some p → ∃ A c, w.cell? ⟨g, 3 * j, none⟩ = some (.bool (ng p.1)) ∧ w.cell? ⟨g, 3 * j + 1, none⟩ = some (.slice A (zl p.1) c) ∧ w.cell? ⟨g, 3 * j + 2, none⟩ = some (.int .i64 p.2) ∧ IsN w (.slice A (zl p.1) c) p.1.natAbs
theorem RowD.mono {w w' : World} {v : Value} {l : List (Int × Int)} (h : RowD w v l) (hb : Below w.heap.size w w') : RowD w' v l := by
  obtain ⟨g, c, r, hg, h⟩ := h
  refine ⟨g, c, r, Nat.lt_of_lt_of_le hg hb.size, fun j p hp => ?_⟩
  obtain ⟨A, c, h1, h2, h3, h4⟩ := h j p hp
  exact ⟨A, c, (hb.cell (p := ⟨g, 3 * j, none⟩) hg).trans h1, (hb.cell (p := ⟨g, 3 * j + 1, none⟩) hg).trans h2, (hb.cell (p := ⟨g, 3 * j + 2, none⟩) hg).trans h3, h4.mono hb⟩
def dOf (p : Int × Int) : Rat := dq p.1 p.2
def LoopL (l : List (Int × Int)) (t : Nat) (m e : Int) : Prop := (m, e) ∈ l ∧ ∀ (j : Nat) (p : Int × Int), j < t → l[j]? = some p → dOf (m, e) ≤ dOf p
def LoopM (l : List (Int × Int)) (t : Nat) (m e : Int) : Prop := (m, e) ∈ l ∧ ∀ (j : Nat) (p : Int × Int), j < t → l[j]? = some p → dOf p ≤ dOf (m, e)
theorem LoopL.first {l : List (Int × Int)} {m e : Int} (h : l[0]? = some (m, e)) : LoopL l 1 m e := by
  refine ⟨List.mem_of_getElem? h, fun j p hj hp => ?_⟩
  obtain rfl : j = 0 := by omega
  rw [h] at hp
  obtain rfl := Option.some.inj hp
  exact Rat.le_refl
theorem LoopM.first {l : List (Int × Int)} {m e : Int} (h : l[0]? = some (m, e)) : LoopM l 1 m e := by
  refine ⟨List.mem_of_getElem? h, fun j p hj hp => ?_⟩
  obtain rfl : j = 0 := by omega
  rw [h] at hp
  obtain rfl := Option.some.inj hp
  exact Rat.le_refl
theorem LoopL.step {l : List (Int × Int)} {t : Nat} {m e a b m' e' : Int} (h : LoopL l t m e) (hp : l[t]? = some (a, b)) (hm : (m', e') ∈ l) (x1 : dOf (m', e') ≤ dOf (m, e)) (x2 : dOf (m', e') ≤ dOf (a, b)) : LoopL l (t + 1) m' e' := by
  refine ⟨hm, fun j p hj hjp => ?_⟩
  rcases Nat.lt_or_ge j t with h1 | h1
  · exact Rat.le_trans x1 (h.2 j p h1 hjp)
  · obtain rfl : j = t := by omega
    rw [hp] at hjp
    obtain rfl := Option.some.inj hjp
    exact x2
theorem LoopM.step {l : List (Int × Int)} {t : Nat} {m e a b m' e' : Int} (h : LoopM l t m e) (hp : l[t]? = some (a, b)) (hm : (m', e') ∈ l) (x1 : dOf (m, e) ≤ dOf (m', e')) (x2 : dOf (a, b) ≤ dOf (m', e')) : LoopM l (t + 1) m' e' := by
  refine ⟨hm, fun j p hj hjp => ?_⟩
  rcases Nat.lt_or_ge j t with h1 | h1
  · exact Rat.le_trans (h.2 j p h1 hjp) x1
  · obtain rfl : j = t := by omega
    rw [hp] at hjp
    obtain rfl := Option.some.inj hjp
    exact x2
theorem LoopL.all {l : List (Int × Int)} {m e : Int} {n : Nat} (hn : l.length = n) (h : LoopL l n m e) : ∀ q ∈ l, dOf (m, e) ≤ dOf q := fun q hq => by
  obtain ⟨j, hj, r⟩ := List.getElem_of_mem hq
  exact h.2 j q (by omega) (by rw [← r]; exact List.getElem?_eq_getElem hj)
theorem LoopM.all {l : List (Int × Int)} {m e : Int} {n : Nat} (hn : l.length = n) (h : LoopM l n m e) : ∀ q ∈ l, dOf q ≤ dOf (m, e) := fun q hq => by
  obtain ⟨j, hj, r⟩ := List.getElem_of_mem hq
  exact h.2 j q (by omega) (by rw [← r]; exact List.getElem?_eq_getElem hj)

end Go.Proofs.YtmlddkiccjpoeaaGreatDoor

