/- Words for fractions: a struct of an integer and a natural; variables that hold such structs; what is known at a point of a walk. -/
import Derived.Test.YtpgiolbnmlbjbaaGreatDoorRatMath
import Derived.Test.YtpgiolbnmlbjbaaGreatDoorBaseI
import Derived.Test.YtpgiolbnmlbjbaaGreatDoorBaseJ
namespace Go.Proofs.YtpgiolbnmlbjbaaGreatDoor
open Go.RowKit
set_option linter.unusedVariables false
set_option linter.unusedSimpArgs false
set_option maxRecDepth 100000

/-- A value stands for a pair of an integer and a natural (a fraction in lowest terms, or the zero value). -/
def IsP (w : World) (v : Value) (a : Int) (d : Nat) : Prop := ∃ s t, v = .agg #[.bool (ng a), s, t] ∧ IsN w s a.natAbs ∧ IsN w t d
theorem IsP.mono {w w' : World} {v : Value} {a : Int} {d : Nat} (h : IsP w v a d) (hb : Below w.heap.size w w') : IsP w' v a d := by
  obtain ⟨s, t, e, hs, ht⟩ := h
  exact ⟨s, t, e, hs.mono hb, ht.mono hb⟩
theorem IsP.form {w : World} {v : Value} {a : Int} {d : Nat} (h : IsP w v a d) : ∃ A c B e, v = .agg #[.bool (ng a), .slice A (zl a) c, .slice B (len d) e] ∧ IsZ w (.agg #[.bool (ng a), .slice A (zl a) c]) a ∧ IsN w (.slice A (zl a) c) a.natAbs ∧ IsN w (.slice B (len d) e) d := by
  obtain ⟨s, t, e, hs, ht⟩ := h
  obtain ⟨A, c, e1⟩ := hs.form
  obtain ⟨B, f, e2⟩ := ht.form
  subst e1; subst e2
  exact ⟨A, c, B, f, e, ⟨_, rfl, hs⟩, hs, ht⟩
theorem isP_of {w : World} {s t : Value} {a : Int} {d : Nat} (hs : IsZ w (.agg #[.bool (ng a), s]) a) (ht : IsN w t d) : IsP w (.agg #[.bool (ng a), s, t]) a d := by
  obtain ⟨s', e, h⟩ := hs
  have : s = s' := by simpa using e
  subst this
  exact ⟨s, t, rfl, h, ht⟩
theorem isP_zero (w : World) : IsP w (.agg #[.bool false, .slice none 0 0, .slice none 0 0]) 0 0 := ⟨_, _, rfl, IsN.zero w, IsN.zero w⟩
def IsQ (w : World) (v : Value) (q : Rat) : Prop := IsP w v q.num q.den

/-- Cells that hold no digit of a natural: signs, slices, exponents. -/
def Plain (cs : Array Value) : Prop := ∀ (j : Nat) (x : Int), cs[j]? ≠ some (.int .u32 x)
/-- A variable in a block of its own. -/
def Var (w : World) (g : Nat) (t : TypeId) (cs : Array Value) : Prop := w.heap[g]? = some (.cells cs t (0, 0)) ∧ Plain cs
theorem plain2 (b : Bool) (A : Option Addr) (n c : Nat) : Plain #[.bool b, .slice A n c] := fun j x => by
  match j with
  | 0 => simp
  | 1 => simp
  | j + 2 => simp
theorem plain3 (b : Bool) (A B : Option Addr) (n c m d : Nat) : Plain #[.bool b, .slice A n c, .slice B m d] := fun j x => by
  match j with
  | 0 => simp
  | 1 => simp
  | 2 => simp
  | j + 3 => simp
section
variable {w w' : World} {g : Nat} {t : TypeId} {cs : Array Value}
theorem Var.lt (h : Var w g t cs) : g < w.heap.size := by
  rcases Nat.lt_or_ge g w.heap.size with h1 | h1
  · exact h1
  · have := h.1; rw [Array.getElem?_eq_none h1] at this; cases this
theorem Var.mono (h : Var w g t cs) (hb : Below w.heap.size w w') : Var w' g t cs := ⟨by rw [hb.block g h.lt]; exact h.1, h.2⟩
theorem Var.cell (h : Var w g t cs) (j : Nat) : w.cell? ⟨g, j, none⟩ = cs[j]? := cell_of_row w g j _ _ _ h.1
theorem Var.fr (h : Var w g t cs) (j : Nat) : w.frozen? ⟨g, j, none⟩ = false := by
  have := h.1
  simp [World.frozen?, this]
theorem Var.mk (w : World) (t : TypeId) (cs : Array Value) (h : Plain cs) : Var (w.alloc (.cells cs t)) w.heap.size t cs := ⟨heap_alloc_new w _, h⟩
theorem Var.c20 {a b : Value} (h : Var w g t #[a, b]) : w.cell? ⟨g, 0, none⟩ = some a := h.cell 0
theorem Var.c21 {a b : Value} (h : Var w g t #[a, b]) : w.cell? ⟨g, 1, none⟩ = some b := h.cell 1
theorem Var.c30 {a b c : Value} (h : Var w g t #[a, b, c]) : w.cell? ⟨g, 0, none⟩ = some a := h.cell 0
theorem Var.c31 {a b c : Value} (h : Var w g t #[a, b, c]) : w.cell? ⟨g, 1, none⟩ = some b := h.cell 1
theorem Var.c32 {a b c : Value} (h : Var w g t #[a, b, c]) : w.cell? ⟨g, 2, none⟩ = some c := h.cell 2
/-- A store into it turns no natural. -/
theorem Var.isN (hB : Var w g t cs) (j : Nat) (u : Value) {v : Value} {x : Nat} (h : IsN w v x) : IsN (w.setCell ⟨g, j, none⟩ u) v x := by
  obtain ⟨A, n, c, e, hs⟩ := h
  refine ⟨A, n, c, e, ⟨hs.len, hs.cap, hs.most, hs.small, fun hn => ?_⟩⟩
  obtain ⟨k, off, h1, h2, h3⟩ := hs.place hn
  have hne : k ≠ g := by
    rintro rfl
    have h4 := h3 0 hn
    rw [hB.cell] at h4
    exact hB.2 _ _ h4
  have hh := heap_setCell_other w ⟨g, j, none⟩ k u hne
  refine ⟨k, off, h1, ?_, fun i hi => ?_⟩
  · rcases Nat.lt_or_ge k (w.setCell ⟨g, j, none⟩ u).heap.size with h5 | h5
    · exact h5
    · rw [Array.getElem?_eq_none h5, Array.getElem?_eq_getElem h2] at hh; cases hh
  · rw [World.cell?_of_block (w := w) (a := ⟨k, off + i, none⟩) hh]
    exact h3 i hi
theorem Var.set (hB : Var w g t cs) (j : Nat) (u : Value) (hu : ∀ x, u ≠ .int .u32 x) : Var (w.setCell ⟨g, j, none⟩ u) g t (cs.setIfInBounds j u) := by
  refine ⟨heap_setCell_same w g j _ _ _ hB.1, fun i x h => ?_⟩
  rw [Array.getElem?_setIfInBounds] at h
  split at h
  · split at h
    · exact hu x (Option.some.inj h)
    · cases h
  · exact hB.2 i x h
theorem Var.set_other {k : Nat} {t' : TypeId} {cs' : Array Value} (h : Var w k t' cs') (hne : k ≠ g) (j : Nat) (u : Value) : Var (w.setCell ⟨g, j, none⟩ u) k t' cs' := by
  refine ⟨?_, h.2⟩
  rw [heap_setCell_other w ⟨g, j, none⟩ k u hne]
  exact h.1
end

/-- What is known at a point of a walk: nothing that was there when it began has turned, these values stand for these naturals, integers and pairs, these variables hold these cells. -/
structure Lq (w0 w : World) (ns : List (Value × Nat)) (zs : List (Value × Int)) (qs : List (Value × Int × Nat)) (bs : List (Nat × TypeId × Array Value)) : Prop where
  below : Below w0.heap.size w0 w
  ns : ∀ p ∈ ns, IsN w p.1 p.2
  zs : ∀ p ∈ zs, IsZ w p.1 p.2
  qs : ∀ p ∈ qs, IsP w p.1 p.2.1 p.2.2
  bs : ∀ p ∈ bs, Var w p.1 p.2.1 p.2.2
section
variable {w0 w : World} {ns : List (Value × Nat)} {zs : List (Value × Int)} {qs : List (Value × Int × Nat)} {bs : List (Nat × TypeId × Array Value)}
theorem Lq.mk0 (w : World) : Lq w w [] [] [] [] := ⟨Below.refl _ _, fun _ h => (by cases h), fun _ h => (by cases h), fun _ h => (by cases h), fun _ h => (by cases h)⟩
theorem Lq.step {w' : World} (h : Lq w0 w ns zs qs bs) (hb : Below w.heap.size w w') : Lq w0 w' ns zs qs bs :=
  ⟨h.below.trans (hb.mono h.below.size), fun p hp => (h.ns p hp).mono hb, fun p hp => (h.zs p hp).mono hb, fun p hp => (h.qs p hp).mono hb, fun p hp => (h.bs p hp).mono hb⟩
theorem Lq.drew (h : Lq w0 w ns zs qs bs) : Lq w0 w.drew ns zs qs bs := h.step ((Below.refl _ _).drew)
theorem all_cons {α : Type} {P : α → Prop} {a : α} {l : List α} (h1 : P a) (h2 : ∀ p ∈ l, P p) : ∀ p ∈ a :: l, P p := fun p hp => by
  rcases List.mem_cons.1 hp with rfl | hp
  · exact h1
  · exact h2 p hp
theorem Lq.n (h : Lq w0 w ns zs qs bs) {v : Value} {x : Nat} (hv : IsN w v x) : Lq w0 w ((v, x) :: ns) zs qs bs := ⟨h.below, all_cons hv h.ns, h.zs, h.qs, h.bs⟩
theorem Lq.z (h : Lq w0 w ns zs qs bs) {v : Value} {x : Int} (hv : IsZ w v x) : Lq w0 w ns ((v, x) :: zs) qs bs := ⟨h.below, h.ns, all_cons hv h.zs, h.qs, h.bs⟩
theorem Lq.q (h : Lq w0 w ns zs qs bs) {v : Value} {a : Int} {d : Nat} (hv : IsP w v a d) : Lq w0 w ns zs ((v, a, d) :: qs) bs := ⟨h.below, h.ns, h.zs, all_cons (P := fun p : Value × Int × Nat => IsP w p.1 p.2.1 p.2.2) hv h.qs, h.bs⟩
theorem Lq.b (h : Lq w0 w ns zs qs bs) {g : Nat} {t : TypeId} {cs : Array Value} (hv : Var w g t cs) : Lq w0 w ns zs qs ((g, t, cs) :: bs) := ⟨h.below, h.ns, h.zs, h.qs, all_cons (P := fun p : Nat × TypeId × Array Value => Var w p.1 p.2.1 p.2.2) hv h.bs⟩
/-- A new variable. -/
theorem Lq.var (h : Lq w0 w ns zs qs bs) (g : Nat) (hg : g = w.heap.size) (t : TypeId) (cs : Array Value) (hp : Plain cs) : Lq w0 (w.alloc (.cells cs t)) ns zs qs ((g, t, cs) :: bs) := by
  subst hg
  exact (h.step ((Below.refl w.heap.size w).alloc (Nat.le_refl _) _)).b (Var.mk w t cs hp)
theorem Lq.varZ (h : Lq w0 w ns zs qs bs) (g : Nat) (hg : g = w.heap.size) (b : Bool) (A : Option Addr) (n c : Nat) : Lq w0 (w.alloc (.cells #[.bool b, .slice A n c] 24)) ns zs qs ((g, 24, #[.bool b, .slice A n c]) :: bs) := h.var g hg _ _ (plain2 _ _ _ _)
theorem Lq.varQ (h : Lq w0 w ns zs qs bs) (g : Nat) (hg : g = w.heap.size) (b : Bool) (A B : Option Addr) (n c m d : Nat) : Lq w0 (w.alloc (.cells #[.bool b, .slice A n c, .slice B m d] 44)) ns zs qs ((g, 44, #[.bool b, .slice A n c, .slice B m d]) :: bs) := h.var g hg _ _ (plain3 _ _ _ _ _ _ _)
theorem Lq.getN (h : Lq w0 w ns zs qs bs) {v : Value} {x : Nat} (hp : (v, x) ∈ ns) : IsN w v x := h.ns (v, x) hp
theorem Lq.getZ (h : Lq w0 w ns zs qs bs) {v : Value} {x : Int} (hp : (v, x) ∈ zs) : IsZ w v x := h.zs (v, x) hp
theorem Lq.getQ (h : Lq w0 w ns zs qs bs) {v : Value} {a : Int} {d : Nat} (hp : (v, a, d) ∈ qs) : IsP w v a d := h.qs (v, a, d) hp
theorem Lq.hn {v : Value} {x : Nat} (h : Lq w0 w ((v, x) :: ns) zs qs bs) : IsN w v x := h.ns (v, x) (List.mem_cons_self ..)
theorem Lq.hz {v : Value} {x : Int} (h : Lq w0 w ns ((v, x) :: zs) qs bs) : IsZ w v x := h.zs (v, x) (List.mem_cons_self ..)
theorem Lq.hq {v : Value} {a : Int} {d : Nat} (h : Lq w0 w ns zs ((v, a, d) :: qs) bs) : IsP w v a d := h.qs (v, a, d) (List.mem_cons_self ..)
theorem Lq.b0 {g : Nat} {t : TypeId} {cs : Array Value} (h : Lq w0 w ns zs qs ((g, t, cs) :: bs)) : Var w g t cs := h.bs (g, t, cs) (List.mem_cons_self ..)
theorem Lq.tl {p : Nat × TypeId × Array Value} (h : Lq w0 w ns zs qs (p :: bs)) : Lq w0 w ns zs qs bs := ⟨h.below, h.ns, h.zs, h.qs, fun p hp => h.bs p (List.mem_cons_of_mem _ hp)⟩
theorem Lq.swap {p q : Nat × TypeId × Array Value} (h : Lq w0 w ns zs qs (p :: q :: bs)) : Lq w0 w ns zs qs (q :: p :: bs) :=
  ⟨h.below, h.ns, h.zs, h.qs, fun r hr => h.bs r (by simp only [List.mem_cons] at hr ⊢; rcases hr with h | h | h <;> simp [h])⟩
theorem Lq.pull2 {p q r : Nat × TypeId × Array Value} (h : Lq w0 w ns zs qs (p :: q :: r :: bs)) : Lq w0 w ns zs qs (r :: p :: q :: bs) :=
  ⟨h.below, h.ns, h.zs, h.qs, fun t ht => h.bs t (by simp only [List.mem_cons] at ht ⊢; rcases ht with h | h | h | h <;> simp [h])⟩
/-- One cell of the topmost variable is stored into. -/
theorem Lq.set {g : Nat} {t : TypeId} {cs : Array Value} (h : Lq w0 w ns zs qs ((g, t, cs) :: bs)) (hg : w0.heap.size ≤ g) (hd : ∀ p ∈ bs, p.1 ≠ g) (j : Nat) (u : Value) (hu : ∀ x, u ≠ .int .u32 x) : Lq w0 (w.setCell ⟨g, j, none⟩ u) ns zs qs ((g, t, cs.setIfInBounds j u) :: bs) := by
  refine ⟨h.below.setCell (p := ⟨g, j, none⟩) hg _, fun p hp => h.b0.isN j u (h.ns p hp), fun p hp => ?_, fun p hp => ?_, all_cons (P := fun p : Nat × TypeId × Array Value => Var _ p.1 p.2.1 p.2.2) (h.b0.set j u hu) (fun p hp => (h.bs p (List.mem_cons_of_mem _ hp)).set_other (hd p hp) j u)⟩
  · obtain ⟨s, e, hs⟩ := h.zs p hp
    exact ⟨s, e, h.b0.isN j u hs⟩
  · obtain ⟨s, r, e, hs, hr⟩ := h.qs p hp
    exact ⟨s, r, e, h.b0.isN j u hs, h.b0.isN j u hr⟩
/-- The struct is stored whole. -/
def put3 (w : World) (g : Nat) (b : Bool) (s t : Value) : World := ((w.setCell ⟨g, 0, none⟩ (.bool b)).setCell ⟨g, 1, none⟩ s).setCell ⟨g, 2, none⟩ t
theorem Lq.putQ {g : Nat} {b : Bool} {s t : Value} (h : Lq w0 w ns zs qs ((g, 44, #[.bool b, s, t]) :: bs)) (hg : w0.heap.size ≤ g) (hd : ∀ p ∈ bs, p.1 ≠ g) (b' : Bool) (A B : Option Addr) (n c m d : Nat) :
    Lq w0 (put3 w g b' (.slice A n c) (.slice B m d)) ns zs qs ((g, 44, #[.bool b', .slice A n c, .slice B m d]) :: bs) :=
  ((h.set hg hd 0 (.bool b') (by intro x e; cases e)).set hg hd 1 (.slice A n c) (by intro x e; cases e)).set hg hd 2 (.slice B m d) (by intro x e; cases e)
theorem Lq.putZ {g : Nat} {b : Bool} {s : Value} (h : Lq w0 w ns zs qs ((g, 24, #[.bool b, s]) :: bs)) (hg : w0.heap.size ≤ g) (hd : ∀ p ∈ bs, p.1 ≠ g) (b' : Bool) (A : Option Addr) (n c : Nat) :
    Lq w0 (put2 w g b' (.slice A n c)) ns zs qs ((g, 24, #[.bool b', .slice A n c]) :: bs) :=
  (h.set hg hd 0 (.bool b') (by intro x e; cases e)).set hg hd 1 (.slice A n c) (by intro x e; cases e)
end

/-- A pair; a pair and an error; nothing that was there has turned. -/
def RetP (w : World) (a : Int) (d : Nat) (e : Ending) (w' : World) : Prop := ∃ v, e = .returned v ∧ IsP w' v a d ∧ Below w.heap.size w w'
def RetPE (w : World) (a : Int) (d : Nat) (er : Int) (e : Ending) (w' : World) : Prop := ∃ v, e = .returned (.tuple #[v, .int .i64 er]) ∧ IsP w' v a d ∧ Below w.heap.size w w'
def RetQ (w : World) (q : Rat) (e : Ending) (w' : World) : Prop := RetP w q.num q.den e w'

end Go.Proofs.YtpgiolbnmlbjbaaGreatDoor
