/- A region that draws its order and makes three new fractions: by the invariant, whatever the order. -/
import Derived.Test.YtgjljalcgiddgaaDoorRegInv
namespace Go.Proofs.YtgjljalcgiddgaaDoor
open Go.RowKit
set_option linter.unusedVariables false
set_option linter.unusedSimpArgs false
set_option maxRecDepth 100000

def end3 (k : Nat) : Array Bool := #[true, true, true, true, true, true, true, true, true, decide (0 < k), decide (1 < k), decide (2 < k)]
section
variable {P : Program} {ops : Array Oper} {Q : Exit → Act → World → Prop} {md : Region.Mode} {S : World → Prop} {V : World} {q1n q2n q3n : Int} {q1d q2d q3d : Nat} (F : Value → Value → Value → Value → Value → Value → Act)
theorem one_ready {i n : Nat} {listed l2 : Array Bool} {a : Act} {w : World} (hr : Region.ready md ops listed = [i]) (hl : listed.setIfInBounds i true = l2) (h : wpOp P ops Q i (fun a' w' => S w' ∧ wpAnyH P md ops Q S n l2 a' w') a w) : wpAnyH P md ops Q S (n + 1) listed a w := by
  refine ⟨(fun h0 => by rw [hr] at h0; cases h0), fun j hj => ?_⟩
  rw [hr, List.mem_singleton] at hj
  subst hj
  rw [hl]
  exact h
/-- What one store asks and gives. -/
def St3 (P : Program) (ops : Array Oper) (Q : Exit → Act → World → Prop) (i : Nat) (G : Value → Value → Act) : Prop := ∀ (b : Bool) (A : Option Addr) (n c : Nat) (B : Option Addr) (m d g : Nat) (w : World) (K : Act → World → Prop), w.cell? ⟨g, 0, none⟩ = some (.bool false) → w.cell? ⟨g, 1, none⟩ = some (.slice none 0 0) → w.cell? ⟨g, 2, none⟩ = some (.slice none 0 0) → w.frozen? ⟨g, 0, none⟩ = false → w.frozen? ⟨g, 1, none⟩ = false → w.frozen? ⟨g, 2, none⟩ = false → K (G (.agg #[.bool b, .slice A n c, .slice B m d]) (.pointer (some ⟨g, 0, none⟩))) (((w.setCell ⟨g, 0, none⟩ (.bool b)).setCell ⟨g, 1, none⟩ (.slice A n c)).setCell ⟨g, 2, none⟩ (.slice B m d)) → wpOp P ops Q i K (G (.agg #[.bool b, .slice A n c, .slice B m d]) (.pointer (some ⟨g, 0, none⟩))) w
theorem region3_stores (hS : ∀ w', Below V.heap.size V w' → S w')
    (r9 : Region.ready md ops (end3 0) = [9]) (r10 : Region.ready md ops (end3 1) = [10]) (r11 : Region.ready md ops (end3 2) = [11]) (r12 : Region.ready md ops (end3 3) = [])
    (t9 : ∀ v2 v3 s2 s3, St3 P ops Q 9 (fun v s => F v v2 v3 s s2 s3)) (t10 : ∀ v1 v3 s1 s3, St3 P ops Q 10 (fun v s => F v1 v v3 s1 s s3)) (t11 : ∀ v1 v2 s1 s2, St3 P ops Q 11 (fun v s => F v1 v2 v s1 s2 s))
    (hQ : ∀ v1 v2 v3 s1 s2 s3 w, Made3Q V q1n q1d q2n q2d q3n q3d s1 s2 s3 w → Q .normal (F v1 v2 v3 s1 s2 s3) w)
    {v1 v2 v3 s1 s2 s3 : Value} {w : World} (h : Way3 V q1n q1d q2n q2d q3n q3d 3 true true true s1 s2 s3 v1 v2 v3 w) : wpAnyH P md ops Q S 3 (lst3 3 true true true) (F v1 v2 v3 s1 s2 s3) w := by
  obtain ⟨g1, g2, g3, rfl, rfl, rfl, h1, h2, h3, n12, n13, n23, L⟩ := h.lq
  have D : Dq V w [] [] [(v1, q1n, q1d), (v2, q2n, q2d), (v3, q3n, q3d)] [(g1, 40, #[.bool false, .slice none 0 0, .slice none 0 0]), (g2, 40, #[.bool false, .slice none 0 0, .slice none 0 0]), (g3, 40, #[.bool false, .slice none 0 0, .slice none 0 0])] := by
    refine ⟨L, ?_, ?_⟩
    · simp only [List.map_cons, List.map_nil, List.nodup_cons, List.mem_cons, List.not_mem_nil, or_false, not_or, not_false_eq_true, List.nodup_nil, and_true]
      exact ⟨⟨n12, n13⟩, n23⟩
    · intro p hp
      simp only [List.mem_cons, List.not_mem_nil, or_false] at hp
      rcases hp with rfl | rfl | rfl <;> assumption
  obtain ⟨A1, c1, B1, k1, rfl, _⟩ := (D.getQ (v := v1) (a := q1n) (d := q1d) (by simp)).form
  obtain ⟨A2, c2, B2, k2, rfl, _⟩ := (D.getQ (v := v2) (a := q2n) (d := q2d) (by simp)).form
  obtain ⟨A3, c3, B3, k3, rfl, _⟩ := (D.getQ (v := v3) (a := q3n) (d := q3d) (by simp)).form
  refine one_ready r9 (l2 := end3 1) rfl (t9 _ _ _ _ _ _ _ _ _ _ _ g1 _ _ D.lq.b0.c30 D.lq.b0.c31 D.lq.b0.c32 (D.lq.b0.fr 0) (D.lq.b0.fr 1) (D.lq.b0.fr 2) ?_)
  have D1 := (D.put g1 (ng q1n) A1 B1 (zl q1n) c1 (len q1d) k1).swap
  refine ⟨hS _ D1.lq.below, one_ready r10 (l2 := end3 2) rfl (t10 _ _ _ _ _ _ _ _ _ _ _ g2 _ _ D1.lq.b0.c30 D1.lq.b0.c31 D1.lq.b0.c32 (D1.lq.b0.fr 0) (D1.lq.b0.fr 1) (D1.lq.b0.fr 2) ?_)⟩
  have D2 := (D1.put g2 (ng q2n) A2 B2 (zl q2n) c2 (len q2d) k2).pull2
  refine ⟨hS _ D2.lq.below, one_ready r11 (l2 := end3 3) rfl (t11 _ _ _ _ _ _ _ _ _ _ _ g3 _ _ D2.lq.b0.c30 D2.lq.b0.c31 D2.lq.b0.c32 (D2.lq.b0.fr 0) (D2.lq.b0.fr 1) (D2.lq.b0.fr 2) ?_)⟩
  have D3 := (D2.put g3 (ng q3n) A3 B3 (zl q3n) c3 (len q3d) k3).swap.pull2
  exact ⟨hS _ D3.lq.below, r12, hQ _ _ _ _ _ _ _ (made3q_of D3 (by simp) (by simp) (by simp))⟩
/-- What one call asks and gives. -/
def Ca3 (P : Program) (ops : Array Oper) (Q : Exit → Act → World → Prop) (V : World) (i : Nat) (n : Int) (d : Nat) (G : Value → Act) : Prop := ∀ (u : Value) (w : World) (K : Act → World → Prop), Below V.heap.size V w → (∀ v w', Below w.heap.size w w' → IsP w' v n d → K (G v) w') → wpOp P ops Q i K (G u) w
/-- What one new variable asks and gives. -/
def Al3 (P : Program) (ops : Array Oper) (Q : Exit → Act → World → Prop) (i : Nat) (G : Value → Act) : Prop := ∀ (u : Value) (w : World) (K : Act → World → Prop), K (G (.pointer (some ⟨w.heap.size, 0, none⟩))) (w.alloc (.cells #[.bool false, .slice none 0 0, .slice none 0 0] 40)) → wpOp P ops Q i K (G u) w
theorem region3_run (hS : ∀ w', Below V.heap.size V w' → S w')
    (hr : ∀ j e1 e2 e3, j ≤ 3 → left3 j e1 e2 e3 ≠ 0 → Region.ready md ops (lst3 j e1 e2 e3) = rdy3 j e1 e2 e3)
    (r9 : Region.ready md ops (end3 0) = [9]) (r10 : Region.ready md ops (end3 1) = [10]) (r11 : Region.ready md ops (end3 2) = [11]) (r12 : Region.ready md ops (end3 3) = [])
    (t1 : ∀ v2 v3 s1 s2 s3, Ca3 P ops Q V 1 q1n q1d (fun v => F v v2 v3 s1 s2 s3)) (t3 : ∀ v1 v3 s1 s2 s3, Ca3 P ops Q V 3 q2n q2d (fun v => F v1 v v3 s1 s2 s3)) (t5 : ∀ v1 v2 s1 s2 s3, Ca3 P ops Q V 5 q3n q3d (fun v => F v1 v2 v s1 s2 s3))
    (t6 : ∀ v1 v2 v3 s2 s3, Al3 P ops Q 6 (fun s => F v1 v2 v3 s s2 s3)) (t7 : ∀ v1 v2 v3 s1 s3, Al3 P ops Q 7 (fun s => F v1 v2 v3 s1 s s3)) (t8 : ∀ v1 v2 v3 s1 s2, Al3 P ops Q 8 (fun s => F v1 v2 v3 s1 s2 s))
    (t9 : ∀ v2 v3 s2 s3, St3 P ops Q 9 (fun v s => F v v2 v3 s s2 s3)) (t10 : ∀ v1 v3 s1 s3, St3 P ops Q 10 (fun v s => F v1 v v3 s1 s s3)) (t11 : ∀ v1 v2 s1 s2, St3 P ops Q 11 (fun v s => F v1 v2 v s1 s2 s))
    (hQ : ∀ v1 v2 v3 s1 s2 s3 w, Made3Q V q1n q1d q2n q2d q3n q3d s1 s2 s3 w → Q .normal (F v1 v2 v3 s1 s2 s3) w)
    {w : World} (hw : Below V.heap.size V w) : wpAnyH P md ops Q S 9 (lst3 0 false false false) (F undef undef undef undef undef undef) w := by
  refine wpAnyH_inv (k := 3) (fun n listed a w => ∃ j e1 e2 e3 s1 s2 s3 v1 v2 v3, j ≤ 3 ∧ n = left3 j e1 e2 e3 ∧ listed = lst3 j e1 e2 e3 ∧ a = F v1 v2 v3 s1 s2 s3 ∧ Way3 V q1n q1d q2n q2d q3n q3d j e1 e2 e3 s1 s2 s3 v1 v2 v3 w) ?_ ?_ 6 _ _ _ ⟨0, false, false, false, undef, undef, undef, undef, undef, undef, by omega, rfl, rfl, rfl, ⟨hw, (fun x => by omega), (fun x => by omega), (fun x => by omega), fun _ => rfl, fun _ => rfl, fun _ => rfl, (fun x => by cases x), (fun x => by cases x), (fun x => by cases x), fun _ => rfl, fun _ => rfl, fun _ => rfl, (fun x => by cases x), (fun x => by cases x), (fun x => by cases x)⟩⟩
  · rintro n _ _ w ⟨j, e1, e2, e3, s1, s2, s3, v1, v2, v3, hj, hn, rfl, rfl, W⟩
    have hr1 := hr j e1 e2 e3 hj (by omega)
    rw [hr1]
    refine ⟨?_, fun i hi => ?_⟩
    · intro h0
      simp only [rdy3, List.append_eq_nil_iff] at h0
      obtain ⟨y0, y1, y2, y3⟩ := h0
      have z1 : e1 = true := by cases e1 <;> simp at y1 ⊢
      have z2 : e2 = true := by cases e2 <;> simp at y2 ⊢
      have z3 : e3 = true := by cases e3 <;> simp at y3 ⊢
      subst z1 z2 z3
      have : j = 3 := by
        by_cases a0 : j = 0
        · simp [a0] at y0
        · by_cases a1 : j = 1
          · simp [a1] at y0
          · by_cases a2 : j = 2
            · simp [a2] at y0
            · omega
      subst this
      simp [left3] at hn
    · simp only [rdy3, List.mem_append] at hi
      rcases hi with hi | hi | hi | hi
      · by_cases a0 : j = 0
        · subst a0
          simp only [if_true, List.mem_singleton] at hi
          subst hi
          refine t1 _ _ _ _ _ _ _ _ W.below (fun v w' hb hv => ⟨hS _ (W.call0 hb hv).below, ⟨1, e1, e2, e3, s1, s2, s3, v, v2, v3, by omega, ?_, rfl, rfl, W.call0 hb hv⟩⟩)
          simp only [left3] at hn ⊢
          omega
        · by_cases a1 : j = 1
          · subst a1
            simp only [List.mem_singleton, if_true, if_false, reduceCtorEq, Nat.one_ne_zero] at hi
            subst hi
            refine t3 _ _ _ _ _ _ _ _ W.below (fun v w' hb hv => ⟨hS _ (W.call1 hb hv).below, ⟨2, e1, e2, e3, s1, s2, s3, v1, v, v3, by omega, ?_, rfl, rfl, W.call1 hb hv⟩⟩)
            simp only [left3] at hn ⊢
            omega
          · by_cases a2 : j = 2
            · subst a2
              simp at hi
              subst hi
              refine t5 _ _ _ _ _ _ _ _ W.below (fun v w' hb hv => ⟨hS _ (W.call2 hb hv).below, ⟨3, e1, e2, e3, s1, s2, s3, v1, v2, v, by omega, ?_, rfl, rfl, W.call2 hb hv⟩⟩)
              simp only [left3] at hn ⊢
              omega
            · simp [a0, a1, a2] at hi
      · cases e1
        · simp at hi
          subst hi
          refine t6 _ _ _ _ _ _ _ _ ⟨hS _ W.new1.below, ⟨j, true, e2, e3, _, s2, s3, v1, v2, v3, hj, ?_, rfl, rfl, W.new1⟩⟩
          simp only [left3] at hn ⊢
          simp at hn ⊢
          omega
        · simp at hi
      · cases e2
        · simp at hi
          subst hi
          refine t7 _ _ _ _ _ _ _ _ ⟨hS _ W.new2.below, ⟨j, e1, true, e3, s1, _, s3, v1, v2, v3, hj, ?_, rfl, rfl, W.new2⟩⟩
          simp only [left3] at hn ⊢
          simp at hn ⊢
          omega
        · simp at hi
      · cases e3
        · simp at hi
          subst hi
          refine t8 _ _ _ _ _ _ _ _ ⟨hS _ W.new3.below, ⟨j, e1, e2, true, s1, s2, _, v1, v2, v3, hj, ?_, rfl, rfl, W.new3⟩⟩
          simp only [left3] at hn ⊢
          simp at hn ⊢
          omega
        · simp at hi
  · rintro _ _ w ⟨j, e1, e2, e3, s1, s2, s3, v1, v2, v3, hj, hn, rfl, rfl, W⟩
    have z : j = 3 ∧ e1 = true ∧ e2 = true ∧ e3 = true := by
      simp only [left3] at hn
      cases e1 <;> cases e2 <;> cases e3 <;> simp at hn ⊢ <;> omega
    obtain ⟨rfl, rfl, rfl, rfl⟩ := z
    exact region3_stores F hS r9 r10 r11 r12 t9 t10 t11 hQ W
end

/-- The state: six slots of the beginning's, written. -/
def FF (a0 : Act) (T1 T2 T3 X1 X2 X3 : Nat) (v1 v2 v3 s1 s2 s3 : Value) : Act := (((((a0.put (some T1) v1).put (some T2) v2).put (some T3) v3).put (some X1) s1).put (some X2) s2).put (some X3) s3
section
variable {P : Program} {ops : Array Oper} {Q : Exit → Act → World → Prop} {md : Region.Mode} {S : World → Prop} {V : World} {q1n q2n q3n : Int} {q1d q2d q3d : Nat}
theorem region3_at {a0 : Act} {listed : Array Bool} {n : Nat} (T1 T2 T3 X1 X2 X3 : Nat) (hl : listed = lst3 0 false false false) (hn : n = 9) (h0 : FF a0 T1 T2 T3 X1 X2 X3 undef undef undef undef undef undef = a0) (hS : ∀ w', Below V.heap.size V w' → S w')
    (hr : ∀ j e1 e2 e3, j ≤ 3 → left3 j e1 e2 e3 ≠ 0 → Region.ready md ops (lst3 j e1 e2 e3) = rdy3 j e1 e2 e3)
    (r9 : Region.ready md ops (end3 0) = [9]) (r10 : Region.ready md ops (end3 1) = [10]) (r11 : Region.ready md ops (end3 2) = [11]) (r12 : Region.ready md ops (end3 3) = [])
    (t1 : ∀ v2 v3 s1 s2 s3, Ca3 P ops Q V 1 q1n q1d (fun v => FF a0 T1 T2 T3 X1 X2 X3 v v2 v3 s1 s2 s3)) (t3 : ∀ v1 v3 s1 s2 s3, Ca3 P ops Q V 3 q2n q2d (fun v => FF a0 T1 T2 T3 X1 X2 X3 v1 v v3 s1 s2 s3)) (t5 : ∀ v1 v2 s1 s2 s3, Ca3 P ops Q V 5 q3n q3d (fun v => FF a0 T1 T2 T3 X1 X2 X3 v1 v2 v s1 s2 s3))
    (t6 : ∀ v1 v2 v3 s2 s3, Al3 P ops Q 6 (fun s => FF a0 T1 T2 T3 X1 X2 X3 v1 v2 v3 s s2 s3)) (t7 : ∀ v1 v2 v3 s1 s3, Al3 P ops Q 7 (fun s => FF a0 T1 T2 T3 X1 X2 X3 v1 v2 v3 s1 s s3)) (t8 : ∀ v1 v2 v3 s1 s2, Al3 P ops Q 8 (fun s => FF a0 T1 T2 T3 X1 X2 X3 v1 v2 v3 s1 s2 s))
    (t9 : ∀ v2 v3 s2 s3, St3 P ops Q 9 (fun v s => FF a0 T1 T2 T3 X1 X2 X3 v v2 v3 s s2 s3)) (t10 : ∀ v1 v3 s1 s3, St3 P ops Q 10 (fun v s => FF a0 T1 T2 T3 X1 X2 X3 v1 v v3 s1 s s3)) (t11 : ∀ v1 v2 s1 s2, St3 P ops Q 11 (fun v s => FF a0 T1 T2 T3 X1 X2 X3 v1 v2 v s1 s2 s))
    (hQ : ∀ v1 v2 v3 s1 s2 s3 w, Made3Q V q1n q1d q2n q2d q3n q3d s1 s2 s3 w → Q .normal (FF a0 T1 T2 T3 X1 X2 X3 v1 v2 v3 s1 s2 s3) w)
    {w : World} (hw : Below V.heap.size V w) : wpAnyH P md ops Q S n listed a0 w := by
  subst hl hn
  have h := region3_run (fun v1 v2 v3 s1 s2 s3 => FF a0 T1 T2 T3 X1 X2 X3 v1 v2 v3 s1 s2 s3) hS hr r9 r10 r11 r12 t1 t3 t5 t6 t7 t8 t9 t10 t11 hQ hw
  rwa [h0] at h
end

end Go.Proofs.YtgjljalcgiddgaaDoor
