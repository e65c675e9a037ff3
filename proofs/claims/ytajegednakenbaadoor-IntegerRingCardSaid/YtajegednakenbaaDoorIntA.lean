/- Words for integers: a struct of a sign and a natural; variables that hold such a struct; what is known at a point of a walk. -/
import Derived.Test.YtajegednakenbaaDoorLive
namespace Go.Proofs.YtajegednakenbaaDoor
open Go.RowKit
set_option linter.unusedVariables false
set_option linter.unusedSimpArgs false

/-- The sign of a number, as the struct's first field has it. -/
def ng (z : Int) : Bool := decide (z < 0)
/-- How many digits it has. -/
def zl (z : Int) : Nat := len z.natAbs
theorem ng_nat (n : Nat) : ng (n : Int) = false := decide_eq_false (by omega)
theorem ng_yes {z : Int} (h : z < 0) : ng z = true := decide_eq_true h
theorem ng_no {z : Int} (h : 0 ≤ z) : ng z = false := decide_eq_false (by omega)
theorem zl_nat (n : Nat) : zl (n : Int) = len n := rfl
theorem zl_zero : zl 0 = 0 := len_zero
theorem zl_neg (z : Int) : zl (-z) = zl z := by unfold zl; rw [Int.natAbs_neg]
theorem zl_pos {z : Int} (h : z ≠ 0) : 0 < zl z := len_pos (by omega)
theorem zl_eq_zero {z : Int} (h : zl z = 0) : z = 0 := by
  have := len_eq_zero h
  omega
theorem zl_add (x y : Int) : zl (x + y) ≤ max (zl x) (zl y) + 1 := by
  have h1 : (x + y).natAbs ≤ x.natAbs + y.natAbs := Int.natAbs_add_le x y
  exact Nat.le_trans (len_mono h1) (len_add _ _)
theorem zl_sub (x y : Int) : zl (x - y) ≤ max (zl x) (zl y) + 1 := by
  rw [Int.sub_eq_add_neg]
  have := zl_add x (-y)
  rwa [zl_neg] at this
theorem zl_mul (x y : Int) : zl (x * y) ≤ zl x + zl y := by
  unfold zl
  rw [Int.natAbs_mul]
  exact len_mul _ _

/-- A value stands for an integer. -/
def IsZ (w : World) (v : Value) (z : Int) : Prop := ∃ s, v = .agg #[.bool (ng z), s] ∧ IsN w s z.natAbs
theorem IsZ.mono {w w' : World} {v : Value} {z : Int} (h : IsZ w v z) (hb : Below w.heap.size w w') : IsZ w' v z := by
  obtain ⟨s, e, hs⟩ := h
  exact ⟨s, e, hs.mono hb⟩
theorem IsN.form {w : World} {v : Value} {x : Nat} (h : IsN w v x) : ∃ A c, v = .slice A (len x) c := by
  obtain ⟨A, n, c, e, hs⟩ := h
  have := hs.len
  rw [length_dig] at this
  subst this
  exact ⟨A, c, e⟩
theorem IsZ.form {w : World} {v : Value} {z : Int} (h : IsZ w v z) : ∃ A c, v = .agg #[.bool (ng z), .slice A (zl z) c] ∧ IsN w (.slice A (zl z) c) z.natAbs := by
  obtain ⟨s, e, hs⟩ := h
  obtain ⟨A, c, e2⟩ := hs.form
  subst e2
  exact ⟨A, c, e, hs⟩
/-- A sign and a natural, joined. -/
def sg (b : Bool) (x : Nat) : Int := if b then -(x : Int) else (x : Int)
theorem sg_abs (b : Bool) (x : Nat) : (sg b x).natAbs = x := by unfold sg; cases b <;> simp
theorem sg_ng (b : Bool) (x : Nat) : ng (sg b x) = (b && decide (0 < x)) := by
  unfold sg ng
  cases b
  · simp
  · simp
theorem sg_self (z : Int) : sg (ng z) z.natAbs = z := by
  unfold sg ng
  by_cases h : z < 0
  · rw [decide_eq_true h, if_pos rfl]; omega
  · rw [decide_eq_false h, if_neg (by simp)]; omega
theorem isZ_sg {w : World} {s : Value} {x : Nat} (b : Bool) (h : IsN w s x) : IsZ w (.agg #[.bool (b && decide (0 < x)), s]) (sg b x) :=
  ⟨s, by rw [sg_ng], by rw [sg_abs]; exact h⟩
theorem zl_sg (b : Bool) (x : Nat) : zl (sg b x) = len x := by unfold zl; rw [sg_abs]

/-- A variable that holds such a struct. -/
def Box (w : World) (g : Nat) (b : Bool) (s : Value) : Prop := w.heap[g]? = some (.cells #[.bool b, s] 24 (0, 0)) ∧ ∃ A n c, s = .slice A n c
theorem Box.lt {w : World} {g : Nat} {b : Bool} {s : Value} (h : Box w g b s) : g < w.heap.size := by
  rcases Nat.lt_or_ge g w.heap.size with h1 | h1
  · exact h1
  · have := h.1; rw [Array.getElem?_eq_none h1] at this; cases this
theorem Box.mono {w w' : World} {g : Nat} {b : Bool} {s : Value} (h : Box w g b s) (hb : Below w.heap.size w w') : Box w' g b s :=
  ⟨by rw [hb.block g h.lt]; exact h.1, h.2⟩
theorem Box.mk (w : World) (b : Bool) (A : Option Addr) (n c : Nat) : Box (w.alloc (.cells #[.bool b, .slice A n c] 24)) w.heap.size b (.slice A n c) :=
  ⟨heap_alloc_new w _, A, n, c, rfl⟩
theorem Box.c0 {w : World} {g : Nat} {b : Bool} {s : Value} (h : Box w g b s) : w.cell? ⟨g, 0, none⟩ = some (.bool b) := by
  rw [cell_of_row w g 0 _ _ _ h.1]; rfl
theorem Box.c1 {w : World} {g : Nat} {b : Bool} {s : Value} (h : Box w g b s) : w.cell? ⟨g, 1, none⟩ = some s := by
  rw [cell_of_row w g 1 _ _ _ h.1]; rfl
theorem Box.fr {w : World} {g : Nat} {b : Bool} {s : Value} (h : Box w g b s) (j : Nat) : w.frozen? ⟨g, j, none⟩ = false := by
  have := h.1
  simp [World.frozen?, this]
/-- What is stored into it turns no natural. -/
theorem Box.isN {w : World} {g : Nat} {b : Bool} {s : Value} (hB : Box w g b s) (j : Nat) (u : Value) {v : Value} {x : Nat} (h : IsN w v x) : IsN (w.setCell ⟨g, j, none⟩ u) v x := by
  obtain ⟨A, n, c, e, hs⟩ := h
  refine ⟨A, n, c, e, ⟨hs.len, hs.cap, hs.most, hs.small, fun hn => ?_⟩⟩
  obtain ⟨k, off, h1, h2, h3⟩ := hs.place hn
  have hne : k ≠ g := by
    rintro rfl
    have h4 := h3 0 hn
    rw [cell_of_row w k _ _ _ _ hB.1, Nat.add_zero] at h4
    obtain ⟨A', n', c', hsv⟩ := hB.2
    subst hsv
    match off, h4 with
    | 0, h4 => simp at h4
    | 1, h4 => simp at h4
    | off + 2, h4 => simp at h4
  have hh := heap_setCell_other w ⟨g, j, none⟩ k u hne
  refine ⟨k, off, h1, ?_, fun i hi => ?_⟩
  · rcases Nat.lt_or_ge k (w.setCell ⟨g, j, none⟩ u).heap.size with h5 | h5
    · exact h5
    · rw [Array.getElem?_eq_none h5, Array.getElem?_eq_getElem h2] at hh; cases hh
  · rw [World.cell?_of_block (w := w) (a := ⟨k, off + i, none⟩) hh]
    exact h3 i hi
/-- The struct is stored whole. -/
def put2 (w : World) (g : Nat) (b : Bool) (s : Value) : World := (w.setCell ⟨g, 0, none⟩ (.bool b)).setCell ⟨g, 1, none⟩ s
theorem Box.put {w : World} {g : Nat} {b b' : Bool} {s : Value} (hB : Box w g b s) (A : Option Addr) (n c : Nat) : Box (put2 w g b' (.slice A n c)) g b' (.slice A n c) := by
  refine ⟨?_, A, n, c, rfl⟩
  unfold put2
  rw [heap_setCell_same _ g 1 #[.bool b', s] _ _ (by rw [heap_setCell_same w g 0 _ _ _ hB.1]; rfl)]
  rfl
theorem Box.half {w : World} {g : Nat} {b b' : Bool} {s : Value} (hB : Box w g b s) : Box (w.setCell ⟨g, 0, none⟩ (.bool b')) g b' s :=
  ⟨by rw [heap_setCell_same w g 0 _ _ _ hB.1]; rfl, hB.2⟩
theorem Box.putN {w : World} {g : Nat} {b b' : Bool} {s s' : Value} (hB : Box w g b s) {v : Value} {x : Nat} (h : IsN w v x) : IsN (put2 w g b' s') v x :=
  (hB.half (b' := b')).isN 1 s' (hB.isN 0 (.bool b') h)
theorem Box.putZ {w : World} {g : Nat} {b b' : Bool} {s s' : Value} (hB : Box w g b s) {v : Value} {z : Int} (h : IsZ w v z) : IsZ (put2 w g b' s') v z := by
  obtain ⟨t, e, ht⟩ := h
  exact ⟨t, e, hB.putN ht⟩
theorem Box.put_other {w : World} {g k : Nat} {b b' c' : Bool} {s s' t : Value} (hB : Box w g b s) (h : Box w k c' t) (hne : k ≠ g) : Box (put2 w g b' s') k c' t := by
  refine ⟨?_, h.2⟩
  unfold put2
  rw [heap_setCell_other _ ⟨g, 1, none⟩ k _ hne, heap_setCell_other _ ⟨g, 0, none⟩ k _ hne]
  exact h.1
theorem below_put {w0 w : World} (h : Below w0.heap.size w0 w) {g : Nat} (hg : w0.heap.size ≤ g) (b : Bool) (s : Value) : Below w0.heap.size w0 (put2 w g b s) :=
  (h.setCell (p := ⟨g, 0, none⟩) hg _).setCell (p := ⟨g, 1, none⟩) hg _

/-- What is known at a point of a walk: nothing that was there when it began has turned, these values stand for these naturals and integers, these variables hold these structs. -/
structure Lz (w0 w : World) (ns : List (Value × Nat)) (zs : List (Value × Int)) (bs : List (Nat × Bool × Value)) : Prop where
  below : Below w0.heap.size w0 w
  ns : ∀ p ∈ ns, IsN w p.1 p.2
  zs : ∀ p ∈ zs, IsZ w p.1 p.2
  bs : ∀ p ∈ bs, Box w p.1 p.2.1 p.2.2
section
variable {w0 w : World} {ns : List (Value × Nat)} {zs : List (Value × Int)} {bs : List (Nat × Bool × Value)}
theorem Lz.mk0 (w : World) : Lz w w [] [] [] := ⟨Below.refl _ _, fun _ h => (by cases h), fun _ h => (by cases h), fun _ h => (by cases h)⟩
theorem Lz.step {w' : World} (h : Lz w0 w ns zs bs) (hb : Below w.heap.size w w') : Lz w0 w' ns zs bs :=
  ⟨h.below.trans (hb.mono h.below.size), fun p hp => (h.ns p hp).mono hb, fun p hp => (h.zs p hp).mono hb, fun p hp => (h.bs p hp).mono hb⟩
theorem Lz.n (h : Lz w0 w ns zs bs) {v : Value} {x : Nat} (hv : IsN w v x) : Lz w0 w ((v, x) :: ns) zs bs :=
  ⟨h.below, fun p hp => by
    rcases List.mem_cons.1 hp with rfl | hp
    · exact hv
    · exact h.ns p hp, h.zs, h.bs⟩
theorem Lz.z (h : Lz w0 w ns zs bs) {v : Value} {x : Int} (hv : IsZ w v x) : Lz w0 w ns ((v, x) :: zs) bs :=
  ⟨h.below, h.ns, fun p hp => by
    rcases List.mem_cons.1 hp with rfl | hp
    · exact hv
    · exact h.zs p hp, h.bs⟩
theorem Lz.b (h : Lz w0 w ns zs bs) {g : Nat} {b : Bool} {s : Value} (hv : Box w g b s) : Lz w0 w ns zs ((g, b, s) :: bs) :=
  ⟨h.below, h.ns, h.zs, fun p hp => by
    rcases List.mem_cons.1 hp with rfl | hp
    · exact hv
    · exact h.bs p hp⟩
/-- A new variable. -/
theorem Lz.box (h : Lz w0 w ns zs bs) (g : Nat) (hg : g = w.heap.size) (b : Bool) (A : Option Addr) (n c : Nat) : Lz w0 (w.alloc (.cells #[.bool b, .slice A n c] 24)) ns zs ((g, b, .slice A n c) :: bs) := by
  subst hg
  exact (h.step ((Below.refl w.heap.size w).alloc (Nat.le_refl _) _)).b (Box.mk w b A n c)
theorem Lz.getN (h : Lz w0 w ns zs bs) {v : Value} {x : Nat} (hp : (v, x) ∈ ns) : IsN w v x := h.ns (v, x) hp
theorem Lz.getZ (h : Lz w0 w ns zs bs) {v : Value} {x : Int} (hp : (v, x) ∈ zs) : IsZ w v x := h.zs (v, x) hp
theorem Lz.b0 {g : Nat} {b : Bool} {s : Value} (h : Lz w0 w ns zs ((g, b, s) :: bs)) : Box w g b s := h.bs (g, b, s) (List.mem_cons_self ..)
theorem Lz.tl {p : Nat × Bool × Value} (h : Lz w0 w ns zs (p :: bs)) : Lz w0 w ns zs bs := ⟨h.below, h.ns, h.zs, fun p hp => h.bs p (List.mem_cons_of_mem _ hp)⟩
theorem Lz.hz {v : Value} {x : Int} (h : Lz w0 w ns ((v, x) :: zs) bs) : IsZ w v x := h.zs (v, x) (List.mem_cons_self ..)
theorem Lz.hn {v : Value} {x : Nat} (h : Lz w0 w ((v, x) :: ns) zs bs) : IsN w v x := h.ns (v, x) (List.mem_cons_self ..)
theorem Lz.cast {ns' : List (Value × Nat)} {zs' : List (Value × Int)} (h : Lz w0 w ns zs bs) (h1 : ∀ p ∈ ns', p ∈ ns) (h2 : ∀ p ∈ zs', p ∈ zs) : Lz w0 w ns' zs' bs := ⟨h.below, fun p hp => h.ns p (h1 p hp), fun p hp => h.zs p (h2 p hp), h.bs⟩
/-- The topmost variable is stored into. -/
theorem Lz.put {g : Nat} {b : Bool} {s : Value} (h : Lz w0 w ns zs ((g, b, s) :: bs)) (hg : w0.heap.size ≤ g) (hd : ∀ p ∈ bs, p.1 ≠ g) (b' : Bool) (A : Option Addr) (n c : Nat) : Lz w0 (put2 w g b' (.slice A n c)) ns zs ((g, b', .slice A n c) :: bs) :=
  ⟨below_put h.below hg _ _, fun p hp => h.b0.putN (h.ns p hp), fun p hp => h.b0.putZ (h.zs p hp), fun p hp => by
    rcases List.mem_cons.1 hp with rfl | hp
    · exact h.b0.put A n c
    · exact h.b0.put_other (h.bs p (List.mem_cons_of_mem _ hp)) (hd p hp)⟩
end

/-- An integer; a plain value; nothing that was there has turned. -/
def RetZ (w : World) (z : Int) (e : Ending) (w' : World) : Prop := ∃ v, e = .returned v ∧ IsZ w' v z ∧ Below w.heap.size w w'
def RetB (w : World) (b : Bool) (e : Ending) (w' : World) : Prop := e = .returned (.bool b) ∧ Below w.heap.size w w'
theorem retZ_of {w w' : World} {z z' : Int} {s : Value} (hs : IsN w' s z.natAbs) (hb : Below w.heap.size w w') (b : Bool) (e : b = ng z) (e2 : z = z') : RetZ w z' (.returned (.agg #[.bool b, s])) w' := by
  subst e; subst e2
  exact ⟨_, rfl, ⟨s, rfl, hs⟩, hb⟩

end Go.Proofs.YtajegednakenbaaDoor
