/- A region that draws its order, by an invariant: each operation that may come up keeps it (no tree of orders). -/
import Derived.Test.YtgjljalcgiddgaaDoorRatThree
import Derived.Deep.RegionHeld3
namespace Go.Proofs.YtgjljalcgiddgaaDoor
open Go.RowKit
set_option linter.unusedVariables false
set_option linter.unusedSimpArgs false
set_option maxRecDepth 100000

section
variable {P : Program} {ops : Array Oper} {Q : Exit → Act → World → Prop} {md : Region.Mode} {S : World → Prop}
theorem wpOp_of {i : Nat} {o : Oper} {a : Act} {w : World} {K : Act → World → Prop} (hi : ops[i]? = some o) (h : if Region.wanted o (yielded ops a.tmps) = true then Oper.wp P o a w K Q else K (a.put o.dst undef) w) : wpOp P ops Q i K a w := by
  unfold wpOp
  rw [hi]
  by_cases hw : Region.wanted o (yielded ops a.tmps) = true
  · rw [if_pos hw] at h
    simp only [hw, if_true]
    exact Or.inl h
  · rw [if_neg hw] at h
    simp only [hw]
    exact h
theorem wpAnyH_inv {k : Nat} (I : Nat → Array Bool → Act → World → Prop)
    (hstep : ∀ n listed a w, I (n + 1) listed a w → Region.ready md ops listed ≠ [] ∧ ∀ i ∈ Region.ready md ops listed, wpOp P ops Q i (fun a' w' => S w' ∧ I n (listed.setIfInBounds i true) a' w') a w)
    (hend : ∀ listed a w, I 0 listed a w → wpAnyH P md ops Q S k listed a w) :
    ∀ n listed a w, I n listed a w → wpAnyH P md ops Q S (n + k) listed a w
  | 0, listed, a, w, h => by rw [Nat.zero_add]; exact hend listed a w h
  | n + 1, listed, a, w, h => by
    obtain ⟨h1, h2⟩ := hstep n listed a w h
    rw [show n + 1 + k = (n + k) + 1 by omega]
    exact ⟨fun h0 => absurd h0 h1, fun i hi => wpOp_mono (fun a' w' h' => ⟨h'.1, wpAnyH_inv I hstep hend n _ a' w' h'.2⟩) (h2 i hi)⟩
theorem wpAnyH_letter {n : Nat} {listed : Array Bool} {a : Act} {w : World} (h : ∀ a0, a0 = a → wpAnyH P md ops Q S n listed a0 w) : wpAnyH P md ops Q S n listed a w := h a rfl
end
/-- Three chained calls and three variables made: how far it is. -/
def lst3 (j : Nat) (e1 e2 e3 : Bool) : Array Bool := #[true, decide (0 < j), true, decide (1 < j), true, decide (2 < j), e1, e2, e3, false, false, false]
def rdy3 (j : Nat) (e1 e2 e3 : Bool) : List Nat := (if j = 0 then [1] else if j = 1 then [3] else if j = 2 then [5] else []) ++ ((if e1 then [] else [6]) ++ ((if e2 then [] else [7]) ++ (if e3 then [] else [8])))
def left3 (j : Nat) (e1 e2 e3 : Bool) : Nat := (3 - j) + ((if e1 then 0 else 1) + ((if e2 then 0 else 1) + (if e3 then 0 else 1)))
/-- A new variable that is still zero. -/
def Bx (V w : World) (s : Value) : Prop := ∃ g, s = .pointer (some ⟨g, 0, none⟩) ∧ V.heap.size ≤ g ∧ Var w g 40 #[.bool false, .slice none 0 0, .slice none 0 0]
theorem Bx.mono {V w w' : World} {s : Value} (h : Bx V w s) (hb : Below w.heap.size w w') : Bx V w' s := by
  obtain ⟨g, e, h1, h2⟩ := h
  exact ⟨g, e, h1, h2.mono hb⟩
/-- What is known on the way. -/
structure Way3 (V : World) (q1n : Int) (q1d : Nat) (q2n : Int) (q2d : Nat) (q3n : Int) (q3d : Nat) (j : Nat) (e1 e2 e3 : Bool) (s1 s2 s3 v1 v2 v3 : Value) (w : World) : Prop where
  below : Below V.heap.size V w
  c1 : 0 < j → IsP w v1 q1n q1d
  c2 : 1 < j → IsP w v2 q2n q2d
  c3 : 2 < j → IsP w v3 q3n q3d
  u1 : ¬ 0 < j → v1 = undef
  u2 : ¬ 1 < j → v2 = undef
  u3 : ¬ 2 < j → v3 = undef
  b1 : e1 = true → Bx V w s1
  b2 : e2 = true → Bx V w s2
  b3 : e3 = true → Bx V w s3
  n1 : e1 = false → s1 = undef
  n2 : e2 = false → s2 = undef
  n3 : e3 = false → s3 = undef
  d12 : e1 = true → e2 = true → s1 ≠ s2
  d13 : e1 = true → e3 = true → s1 ≠ s3
  d23 : e2 = true → e3 = true → s2 ≠ s3
section
variable {V w w' : World} {q1n q2n q3n : Int} {q1d q2d q3d j : Nat} {e1 e2 e3 : Bool} {s1 s2 s3 v1 v2 v3 v : Value}
theorem Way3.step (h : Way3 V q1n q1d q2n q2d q3n q3d j e1 e2 e3 s1 s2 s3 v1 v2 v3 w) (hb : Below w.heap.size w w') : Way3 V q1n q1d q2n q2d q3n q3d j e1 e2 e3 s1 s2 s3 v1 v2 v3 w' :=
  ⟨h.below.trans (hb.mono h.below.size), fun x => (h.c1 x).mono hb, fun x => (h.c2 x).mono hb, fun x => (h.c3 x).mono hb, h.u1, h.u2, h.u3, fun x => (h.b1 x).mono hb, fun x => (h.b2 x).mono hb, fun x => (h.b3 x).mono hb, h.n1, h.n2, h.n3, h.d12, h.d13, h.d23⟩
theorem Way3.call0 (h : Way3 V q1n q1d q2n q2d q3n q3d 0 e1 e2 e3 s1 s2 s3 v1 v2 v3 w) (hb : Below w.heap.size w w') (hv : IsP w' v q1n q1d) : Way3 V q1n q1d q2n q2d q3n q3d 1 e1 e2 e3 s1 s2 s3 v v2 v3 w' := by
  have k := h.step hb
  exact ⟨k.below, fun _ => hv, fun x => by omega, fun x => by omega, fun x => by omega, fun _ => k.u2 (by omega), fun _ => k.u3 (by omega), k.b1, k.b2, k.b3, k.n1, k.n2, k.n3, k.d12, k.d13, k.d23⟩
theorem Way3.call1 (h : Way3 V q1n q1d q2n q2d q3n q3d 1 e1 e2 e3 s1 s2 s3 v1 v2 v3 w) (hb : Below w.heap.size w w') (hv : IsP w' v q2n q2d) : Way3 V q1n q1d q2n q2d q3n q3d 2 e1 e2 e3 s1 s2 s3 v1 v v3 w' := by
  have k := h.step hb
  exact ⟨k.below, fun _ => k.c1 (by omega), fun _ => hv, fun x => by omega, fun x => by omega, fun x => by omega, fun _ => k.u3 (by omega), k.b1, k.b2, k.b3, k.n1, k.n2, k.n3, k.d12, k.d13, k.d23⟩
theorem Way3.call2 (h : Way3 V q1n q1d q2n q2d q3n q3d 2 e1 e2 e3 s1 s2 s3 v1 v2 v3 w) (hb : Below w.heap.size w w') (hv : IsP w' v q3n q3d) : Way3 V q1n q1d q2n q2d q3n q3d 3 e1 e2 e3 s1 s2 s3 v1 v2 v w' := by
  have k := h.step hb
  exact ⟨k.below, fun _ => k.c1 (by omega), fun _ => k.c2 (by omega), fun _ => hv, fun x => by omega, fun x => by omega, fun x => by omega, k.b1, k.b2, k.b3, k.n1, k.n2, k.n3, k.d12, k.d13, k.d23⟩
theorem Bx.ne_new {s : Value} (h : Bx V w s) : s ≠ .pointer (some ⟨w.heap.size, 0, none⟩) := by
  obtain ⟨g, rfl, _, hv⟩ := h
  have := hv.lt
  intro e
  simp only [Value.pointer.injEq, Option.some.injEq, Addr.mk.injEq, and_true] at e
  omega
theorem Bx.new (hb : Below V.heap.size V w) : Bx V (w.alloc (.cells #[.bool false, .slice none 0 0, .slice none 0 0] 40)) (.pointer (some ⟨w.heap.size, 0, none⟩)) := ⟨_, rfl, hb.size, Var.mk w _ _ (plain3 _ _ _ _ _ _ _)⟩
theorem Way3.new1 (h : Way3 V q1n q1d q2n q2d q3n q3d j false e2 e3 s1 s2 s3 v1 v2 v3 w) : Way3 V q1n q1d q2n q2d q3n q3d j true e2 e3 (.pointer (some ⟨w.heap.size, 0, none⟩)) s2 s3 v1 v2 v3 (w.alloc (.cells #[.bool false, .slice none 0 0, .slice none 0 0] 40)) := by
  have k := h.step ((Below.refl w.heap.size w).alloc (Nat.le_refl _) (.cells #[.bool false, .slice none 0 0, .slice none 0 0] 40))
  exact ⟨k.below, k.c1, k.c2, k.c3, k.u1, k.u2, k.u3, fun _ => Bx.new h.below, k.b2, k.b3, (fun x => by cases x), k.n2, k.n3, fun _ x => Ne.symm (h.b2 x).ne_new, fun _ x => Ne.symm (h.b3 x).ne_new, k.d23⟩
theorem Way3.new2 (h : Way3 V q1n q1d q2n q2d q3n q3d j e1 false e3 s1 s2 s3 v1 v2 v3 w) : Way3 V q1n q1d q2n q2d q3n q3d j e1 true e3 s1 (.pointer (some ⟨w.heap.size, 0, none⟩)) s3 v1 v2 v3 (w.alloc (.cells #[.bool false, .slice none 0 0, .slice none 0 0] 40)) := by
  have k := h.step ((Below.refl w.heap.size w).alloc (Nat.le_refl _) (.cells #[.bool false, .slice none 0 0, .slice none 0 0] 40))
  exact ⟨k.below, k.c1, k.c2, k.c3, k.u1, k.u2, k.u3, k.b1, fun _ => Bx.new h.below, k.b3, k.n1, (fun x => by cases x), k.n3, fun x _ => (h.b1 x).ne_new, k.d13, fun _ x => Ne.symm (h.b3 x).ne_new⟩
theorem Way3.new3 (h : Way3 V q1n q1d q2n q2d q3n q3d j e1 e2 false s1 s2 s3 v1 v2 v3 w) : Way3 V q1n q1d q2n q2d q3n q3d j e1 e2 true s1 s2 (.pointer (some ⟨w.heap.size, 0, none⟩)) v1 v2 v3 (w.alloc (.cells #[.bool false, .slice none 0 0, .slice none 0 0] 40)) := by
  have k := h.step ((Below.refl w.heap.size w).alloc (Nat.le_refl _) (.cells #[.bool false, .slice none 0 0, .slice none 0 0] 40))
  exact ⟨k.below, k.c1, k.c2, k.c3, k.u1, k.u2, k.u3, k.b1, k.b2, fun _ => Bx.new h.below, k.n1, k.n2, (fun x => by cases x), k.d12, fun x _ => (h.b1 x).ne_new, fun x _ => (h.b2 x).ne_new⟩
/-- At the end: all that the stores ask. -/
theorem Way3.lq (h : Way3 V q1n q1d q2n q2d q3n q3d 3 true true true s1 s2 s3 v1 v2 v3 w) : ∃ g1 g2 g3, s1 = .pointer (some ⟨g1, 0, none⟩) ∧ s2 = .pointer (some ⟨g2, 0, none⟩) ∧ s3 = .pointer (some ⟨g3, 0, none⟩) ∧ V.heap.size ≤ g1 ∧ V.heap.size ≤ g2 ∧ V.heap.size ≤ g3 ∧ g1 ≠ g2 ∧ g1 ≠ g3 ∧ g2 ≠ g3 ∧ Lq V w [] [] [(v1, q1n, q1d), (v2, q2n, q2d), (v3, q3n, q3d)] [(g1, 40, #[.bool false, .slice none 0 0, .slice none 0 0]), (g2, 40, #[.bool false, .slice none 0 0, .slice none 0 0]), (g3, 40, #[.bool false, .slice none 0 0, .slice none 0 0])] := by
  obtain ⟨g1, r1, h1, k1⟩ := h.b1 rfl
  obtain ⟨g2, r2, h2, k2⟩ := h.b2 rfl
  obtain ⟨g3, r3, h3, k3⟩ := h.b3 rfl
  have x12 := h.d12 rfl rfl
  have x13 := h.d13 rfl rfl
  have x23 := h.d23 rfl rfl
  rw [r1, r2] at x12
  rw [r1, r3] at x13
  rw [r2, r3] at x23
  refine ⟨g1, g2, g3, r1, r2, r3, h1, h2, h3, fun e => x12 (by rw [e]), fun e => x13 (by rw [e]), fun e => x23 (by rw [e]), ?_⟩
  exact (((((((Lq.mk0 V).step h.below).q (h.c3 (by omega))).q (h.c2 (by omega))).q (h.c1 (by omega))).b k3).b k2).b k1
end

end Go.Proofs.YtgjljalcgiddgaaDoor
