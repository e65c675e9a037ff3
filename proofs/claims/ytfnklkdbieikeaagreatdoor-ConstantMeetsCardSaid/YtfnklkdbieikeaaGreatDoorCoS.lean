/- Whole arrays stored into new variables, as one step. -/
import Derived.Test.YtfnklkdbieikeaaGreatDoorCoT
import Derived.Deep.WholeRow
namespace Go.Proofs.YtfnklkdbieikeaaGreatDoor
open Go.RowKit
set_option linter.unusedVariables false
set_option linter.unusedSimpArgs false
set_option maxRecDepth 100000
attribute [local go_sem ↓] Go.wp_at_zero Go.wp_at_succ

theorem plainI2 (a b : Int) : Plain #[.int .i64 a, .int .i64 b] := fun j x => by
  match j with
  | 0 => simp
  | 1 => simp
  | j + 2 => simp
theorem plainI3 (a b c : Int) : Plain #[.int .i64 a, .int .i64 b, .int .i64 c] := fun j x => by
  match j with
  | 0 => simp
  | 1 => simp
  | 2 => simp
  | j + 3 => simp
theorem setRow_two (w : World) (t u : TypeId) (c c' d : Array Value) : ((w.alloc (.cells c t)).alloc (.cells d u)).setRow w.heap.size c' = (w.alloc (.cells c' t)).alloc (.cells d u) := by
  unfold World.setRow World.alloc
  simp only
  congr 1
  apply Array.ext_getElem?
  intro i
  rw [Array.getElem?_modify]
  by_cases h : w.heap.size = i
  · subst h
    simp [Array.getElem?_push]
  · have h' : ¬ i = w.heap.size := fun e => h e.symm
    simp [h, h', Array.getElem?_push]
theorem wp_storeRow {P : Program} (w : World) {ops : Array Oper} {rest : List Oper} {o : Oper} {a : Act} {Q : Exit → Act → World → Prop} (hg : o.guard = none) (t : TypeId) (p v : Operand) (hop : o.op = Op.store t p v) (g : Nat) (old c : Array Value)
    (hp : a.eval p = .pointer (some ⟨g, 0, none⟩)) (hv : a.eval v = .agg c) (hb : w.heap[g]? = some (.cells old t (0, 0))) (hi : (P.info? t).map (·.size) = some c.size) (ho : old.size = c.size) (h1 : c.all (·.oneCell') = true)
    (hK : wpList P ops Q rest (a.put o.dst undef) (w.setRow g c)) : wpList P ops Q (o :: rest) a w := by
  refine wpList_plain hg fun K hK' => ?_
  have hrun : (Instr.storeAt t (.pointer (some ⟨g, 0, none⟩)) (.agg c)).run P w = .ok () (w.setRow g c) := by
    simp only [Instr.storeAt, Instr.sureAddr, Sem.run_bind, Sem.run_pure, Result.andThen]
    exact run_storeVar_row _ _ _ _ _ _ hb hi ho h1
  unfold Oper.wp
  simp [execOp, hop, hp, hv, hrun, Result.andThen]
  exact hK' _ _ hK
theorem wp_storeNew1 {P : Program} (w : World) {ops : Array Oper} {rest : List Oper} {o : Oper} {a : Act} {Q : Exit → Act → World → Prop} (hg : o.guard = none) (t : TypeId) (p v : Operand) (hop : o.op = Op.store t p v) (old c : Array Value)
    (hp : a.eval p = .pointer (some ⟨w.heap.size, 0, none⟩)) (hv : a.eval v = .agg c) (hi : (P.info? t).map (·.size) = some c.size) (ho : old.size = c.size) (h1 : c.all (·.oneCell') = true)
    (hK : wpList P ops Q rest (a.put o.dst undef) (w.alloc (.cells c t))) : wpList P ops Q (o :: rest) a (w.alloc (.cells old t)) := by
  refine wp_storeRow _ hg t p v hop w.heap.size old c hp hv (heap_alloc_last w _) hi ho h1 ?_
  rw [World.setRow_alloc_new]
  exact hK
theorem wp_storeNew2 {P : Program} (w : World) {ops : Array Oper} {rest : List Oper} {o : Oper} {a : Act} {Q : Exit → Act → World → Prop} (hg : o.guard = none) (t u : TypeId) (p v : Operand) (hop : o.op = Op.store t p v) (old c d : Array Value)
    (hp : a.eval p = .pointer (some ⟨w.heap.size, 0, none⟩)) (hv : a.eval v = .agg c) (hi : (P.info? t).map (·.size) = some c.size) (ho : old.size = c.size) (h1 : c.all (·.oneCell') = true)
    (hK : wpList P ops Q rest (a.put o.dst undef) ((w.alloc (.cells c t)).alloc (.cells d u))) : wpList P ops Q (o :: rest) a ((w.alloc (.cells old t)).alloc (.cells d u)) := by
  refine wp_storeRow _ hg t p v hop w.heap.size old c hp hv ?_ hi ho h1 ?_
  · unfold World.alloc
    simp [Array.getElem?_push]
  · rw [setRow_two]
    exact hK
/-- The row of a variable is stored anew. -/
theorem Lq.row {w0 w : World} {ns : List (Value × Nat)} {zs : List (Value × Int)} {qs : List (Value × Int × Nat)} {bs : List (Nat × TypeId × Array Value)} {g : Nat} {t : TypeId} {cs : Array Value} (h : Lq w0 w ns zs qs ((g, t, cs) :: bs)) (hg : w0.heap.size ≤ g) (hd : ∀ p ∈ bs, p.1 ≠ g) (c : Array Value) (hp : Plain c) : Lq w0 (w.setRow g c) ns zs qs ((g, t, c) :: bs) := by
  have hgl := h.b0.lt
  have hso : ∀ k, k ≠ g → (w.setRow g c).heap[k]? = w.heap[k]? := fun k hk => by
    unfold World.setRow
    simp only
    rw [Array.getElem?_modify, if_neg (fun e => hk e.symm)]
  have hss : (w.setRow g c).heap.size = w.heap.size := by
    unfold World.setRow
    simp
  have hsg : (w.setRow g c).heap[g]? = some (.cells c t (0, 0)) := by
    unfold World.setRow
    simp only
    rw [Array.getElem?_modify, if_pos rfl, h.b0.1]
    rfl
  have hN : ∀ {v : Value} {x : Nat}, IsN w v x → IsN (w.setRow g c) v x := fun {v x} hv => by
    obtain ⟨A, n, k, e, hs⟩ := hv
    refine ⟨A, n, k, e, ⟨hs.len, hs.cap, hs.most, hs.small, fun hn => ?_⟩⟩
    obtain ⟨b, off, h1, h2, h3⟩ := hs.place hn
    have hne : b ≠ g := by
      rintro rfl
      have h4 := h3 0 hn
      rw [h.b0.cell] at h4
      exact h.b0.2 _ _ h4
    refine ⟨b, off, h1, by rw [hss]; exact h2, fun i hi => ?_⟩
    rw [World.cell?_of_block (w := w) (a := ⟨b, off + i, none⟩) (hso b hne)]
    exact h3 i hi
  refine ⟨?_, fun p hp2 => hN (h.ns p hp2), fun p hp2 => ?_, fun p hp2 => ?_, all_cons (P := fun p : Nat × TypeId × Array Value => Var _ p.1 p.2.1 p.2.2) ⟨hsg, hp⟩ (fun p hp2 => ⟨?_, (h.bs p (List.mem_cons_of_mem _ hp2)).2⟩)⟩
  · exact h.below.trans ⟨rfl, rfl, rfl, by rw [hss]; exact Nat.le_refl _, fun k hk => hso k (by omega)⟩
  · obtain ⟨s, e, hs⟩ := h.zs p hp2
    exact ⟨s, e, hN hs⟩
  · obtain ⟨s, r, e, hs, hr⟩ := h.qs p hp2
    exact ⟨s, r, e, hN hs, hN hr⟩
  · rw [hso _ (hd p hp2)]
    exact (h.bs p (List.mem_cons_of_mem _ hp2)).1

end Go.Proofs.YtfnklkdbieikeaaGreatDoor
