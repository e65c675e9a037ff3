/- Words for memory: rows of bytes that a call made; strings of them. -/
import Derived.Test.YtpgiolbnmlbjbaaGreatDoorDecMath
import Derived.Test.YtpgiolbnmlbjbaaGreatDoorOwn
import Derived.Laws.IdiomStrings
namespace Go.Proofs.YtpgiolbnmlbjbaaGreatDoor
open Go.RowKit
set_option linter.unusedVariables false
set_option linter.unusedSimpArgs false
set_option maxRecDepth 100000

def u8s (l : List Nat) : List Value := l.map fun n : Nat => Value.int .u8 (n : Int)
theorem length_u8s (l : List Nat) : (u8s l).length = l.length := by simp [u8s]
theorem u8s_append (a b : List Nat) : u8s (a ++ b) = u8s a ++ u8s b := by simp [u8s]
theorem u8s_one (x : Nat) : u8s [x] = [Value.int .u8 (x : Int)] := rfl
theorem u8s_take (l : List Nat) (k : Nat) : (u8s l).take k = u8s (l.take k) := by simp [u8s]
theorem u8s_set (l : List Nat) (j x : Nat) : (u8s l).set j (.int .u8 (x : Int)) = u8s (l.set j x) := by simp [u8s]
theorem u8s_get {l : List Nat} {j : Nat} (h : j < l.length) : (u8s l)[j]? = some (.int .u8 (nth l j : Nat)) := by
  simp [u8s, h, nth_eq]
theorem u8s_zeros (k : Nat) : u8s (List.replicate k 0) = List.replicate k (.int .u8 0) := by simp [u8s]
theorem info_u8 : (Tryz.prog.info? 5).map (fun i => (i.zero, i.size, i.bytes)) = some (some (.int .u8 0), 1, 1) := by kernel_rfl

/-- A row of bytes that the call made: it lies in a block from 'base' on, and can be written. -/
def OwnB (w : World) (base : Nat) (v : Value) (l : List Nat) : Prop := w.ownsRow base 5 1 v l.length (u8s l) ∧ Byt l
theorem OwnB.byt {w : World} {base : Nat} {v : Value} {l : List Nat} (h : OwnB w base v l) : Byt l := h.2
theorem OwnB.nil (w : World) (base : Nat) : OwnB w base (.slice none 0 0) [] := ⟨World.ownsRow_nil w base 5 1, byt_nil⟩
theorem OwnB.base_le {w : World} {base base' : Nat} {v : Value} {l : List Nat} (h : OwnB w base v l) (hb : base' ≤ base) : OwnB w base' v l := by
  obtain ⟨⟨h1, h2⟩, hs⟩ := h
  refine ⟨⟨h1, ?_⟩, hs⟩
  rcases h2 with h2 | ⟨g, cap, cur, e1, e2, e3⟩
  · exact .inl h2
  · exact .inr ⟨g, cap, cur, e1, Nat.le_trans hb e2, e3⟩
theorem OwnB.form {w : World} {base : Nat} {v : Value} {l : List Nat} (h : OwnB w base v l) :
    ∃ A c, v = .slice A l.length c ∧ l.length ≤ c ∧ c ≤ maxLen ∧ (A = none ∧ l = [] ∨ ∃ g, A = some ⟨g, 0, none⟩ ∧ base ≤ g ∧ g < w.heap.size) := by
  have hown := h.1
  obtain ⟨⟨h1, h2⟩, hs⟩ := h
  rcases h2 with ⟨rfl, h0⟩ | ⟨g, cap, cur, rfl, hb, hg, hc, hm, hsz, htake⟩
  · have : l = [] := List.eq_nil_of_length_eq_zero h0
    subst this
    exact ⟨none, 0, rfl, Nat.le_refl _, Nat.zero_le _, .inl ⟨rfl, rfl⟩⟩
  · have hlt : g < w.heap.size := (hown.lt g rfl).2
    exact ⟨some ⟨g, 0, none⟩, cap, rfl, hc, hm, .inr ⟨g, rfl, hb, hlt⟩⟩
theorem OwnB.len {w : World} {base : Nat} {A : Option Addr} {n c : Nat} {l : List Nat} (h : OwnB w base (.slice A n c) l) : l.length = n := by
  obtain ⟨A', c', e, _⟩ := h.form
  injection e with e1 e2 e3
  exact e2.symm
theorem OwnB.cap {w : World} {base : Nat} {A : Option Addr} {n c : Nat} {l : List Nat} (h : OwnB w base (.slice A n c) l) : n ≤ c ∧ c ≤ maxLen := by
  obtain ⟨A', c', e, h1, h2, _⟩ := h.form
  injection e with e1 e2 e3
  subst e3
  rw [e2]
  exact ⟨h1, h2⟩
theorem OwnB.blockGe {w : World} {base : Nat} {v : Value} {l : List Nat} (h : OwnB w base v l) : ∀ k, v.ownBlock = some k → base ≤ k := fun k hk => (h.1.lt k hk).1
theorem OwnB.grown {w w' : World} {base : Nat} {v : Value} {l : List Nat} {row : Option Nat} (h : OwnB w base v l) (hg : w.grownBy w' row) (hne : v.ownBlock = none ∨ v.ownBlock ≠ row) : OwnB w' base v l :=
  ⟨h.1.kept hg hne, h.2⟩
theorem OwnB.alloc {w : World} {base : Nat} {v : Value} {l : List Nat} (h : OwnB w base v l) (o : Obj) : OwnB (w.alloc o) base v l := ⟨h.1.alloc o, h.2⟩
/-- Behind a call that turns nothing of what was there. -/
theorem OwnB.below {w w' : World} {base : Nat} {v : Value} {l : List Nat} (h : OwnB w base v l) (hb : Below w.heap.size w w') : OwnB w' base v l := by
  have hlt := h.1.lt
  obtain ⟨⟨h1, h2⟩, hs⟩ := h
  refine ⟨⟨h1, ?_⟩, hs⟩
  rcases h2 with h2 | ⟨g, cap, cur, e1, e2, e3, e4⟩
  · exact .inl h2
  · refine .inr ⟨g, cap, cur, e1, e2, ?_, e4⟩
    rw [hb.block g (hlt g (by rw [e1]; rfl)).2]; exact e3
/-- A cut from the head on: 'v[:k]'. -/
theorem OwnB.cut {w : World} {base : Nat} {A : Option Addr} {n c : Nat} {l : List Nat} (h : OwnB w base (.slice A n c) l) {k : Nat} (hk : k ≤ n) : OwnB w base (.slice A k c) (l.take k) := by
  have hl : l.length = n := h.len
  obtain ⟨⟨h1, h2⟩, hs⟩ := h
  have hlen : (l.take k).length = k := by rw [List.length_take]; omega
  refine ⟨⟨by rw [length_u8s]; omega, ?_⟩, byt_take hs k⟩
  rw [hlen]
  rcases h2 with ⟨e, h0⟩ | ⟨g, cap, cur, e, hb, hg, hc, hm, hsz, htake⟩
  · injection e with e1 e2 e3
    subst e1; subst e2; subst e3
    have : k = 0 := by omega
    subst this
    exact .inl ⟨rfl, rfl⟩
  · injection e with e1 e2 e3
    subst e1; subst e3
    refine .inr ⟨g, c, cur, rfl, hb, hg, by omega, hm, hsz, ?_⟩
    rw [← u8s_take, ← htake, List.take_take]
    congr 1
    omega
/-- A store into it. -/
theorem OwnB.store {w : World} {base : Nat} {g n c : Nat} {l : List Nat} (h : OwnB w base (.slice (some ⟨g, 0, none⟩) n c) l) {j x : Nat} (hx : x < 256) :
    OwnB (w.setCell ⟨g, j, none⟩ (.int .u8 (x : Int))) base (.slice (some ⟨g, 0, none⟩) n c) (l.set j x) := by
  have hl := h.len
  obtain ⟨h1, hs⟩ := h
  rw [hl] at h1
  refine ⟨?_, ?_⟩
  · rw [List.length_set, hl, ← u8s_set]
    exact (h1.stored j _).1
  · intro y hy
    rcases List.mem_or_eq_of_mem_set hy with hy | rfl
    · exact hs y hy
    · exact hx
theorem OwnB.free {w : World} {base : Nat} {g n c : Nat} {l : List Nat} (h : OwnB w base (.slice (some ⟨g, 0, none⟩) n c) l) (j : Nat) : w.frozen? ⟨g, j, none⟩ = false := by
  have h1 := h.1
  rw [h.len] at h1
  exact h1.frozenAt j
theorem OwnB.cell {w : World} {base : Nat} {g n c : Nat} {l : List Nat} (h : OwnB w base (.slice (some ⟨g, 0, none⟩) n c) l) {j : Nat} (hj : j < n) :
    w.cell? ⟨g, j, none⟩ = some (.int .u8 (nth l j : Nat)) := by
  have hl := h.len
  have h1 := h.1
  rw [hl] at h1
  rw [h1.cellAt j (by omega), u8s_get (by omega)]

/-- 'make([]byte, n)'. -/
theorem wp_mkB (w : World) {ops : Array Oper} {rest : List Oper} {o : Oper} {a : Act} {Q : Exit → Act → World → Prop}
    (hg : o.guard = none) (s c : Operand) (hop : o.op = Op.makeSlice 119 s c) (base : Nat)
    (L C : Int) (n : Nat) (hl : a.eval s = .int .i64 L) (hc : a.eval c = .int .i64 C) (hL : L = (n : Int)) (hC : C = (n : Int)) (hn : n ≤ 70368744177664) (hbase : base ≤ w.heap.size)
    (hK : ∀ w', OwnB w' base (.slice (some ⟨w.heap.size, 0, none⟩) n n) (List.replicate n 0) → w.grownBy w' none → wpList Tryz.prog ops Q rest (a.put o.dst (.slice (some ⟨w.heap.size, 0, none⟩) n n)) w') :
    wpList Tryz.prog ops Q (o :: rest) a w := by
  obtain ⟨i0, hi, hz0, hz1, hz2⟩ := info_parts info_u8
  refine wpList_make_full w hg s c 119 hop base 5 i0 (.int .u8 0) 1 Tryz.underlying119 hi hz0 hz1 .i64 .i64 L C n hl hc hL hC (by rw [hz2]; omega) (by unfold maxLen; omega) hbase ?_
  intro w' h1 h2
  refine hK w' ⟨?_, fun x hx => by rw [(List.mem_replicate.1 hx).2]; decide⟩ h2
  have e : (madeCells (Value.int .u8 0).cells (n * 1)).toList = u8s (List.replicate n 0) := by
    rw [Nat.mul_one, u8s_zeros]; exact toList_madeCells_one _ n
  rw [e] at h1
  rw [List.length_replicate]
  exact h1

/-- 'append(s, x)', x a new row of one cell. -/
theorem wp_app1B (w : World) {ops : Array Oper} {rest : List Oper} {o : Oper} {a : Act} {Q : Exit → Act → World → Prop} (hgd : o.guard = none) (s x : Operand)
    (ho : o.op = .call { callee := .builtin .append, args := #[s, x], argTypes := #[119, 119] })
    (base : Nat) (v : Value) (l : List Nat) (hs : a.eval s = v) (hown : OwnB w base v l) (g y : Nat) (hx : a.eval x = .slice (some ⟨g, 0, none⟩) 1 1) (hcell : w.cell? ⟨g, 0, none⟩ = some (.int .u8 (y : Int)))
    (hy : y < 256) (hl : l.length < 35184372088832) (hbase : base ≤ w.heap.size)
    (h : ∀ v' w', OwnB w' base v' (l ++ [y]) → w.grownBy w' v.ownBlock → wpList Tryz.prog ops Q rest (a.put o.dst v') w') : wpList Tryz.prog ops Q (o :: rest) a w := by
  obtain ⟨i0, hi, hz0, hz1, hz2⟩ := info_parts info_u8
  refine wpList_append_own w hgd s x 119 ho base 5 i0 (.int .u8 0) 1 1 Tryz.underlying119 hi hz0 hz1 hz2 rfl (by decide) v l.length (u8s l) hs hown.1 ⟨g, 0, none⟩ 1 1 [.int .u8 (y : Int)] hx rfl ?_ (fun u hu => by rw [List.mem_singleton] at hu; subst hu; rfl) (by unfold maxLen; omega) (by omega) hbase ?_
  · intro j u hj
    cases j with
    | zero => simp at hj; subst hj; simpa [Addr.add] using hcell
    | succ j => simp at hj
  · intro v' w' h1 h2 _
    refine h v' w' ⟨?_, byt_append hown.2 (byt_one hy)⟩ h2
    rw [List.length_append, u8s_append, u8s_one]
    exact h1

/-- 'string(b)'. -/
theorem conv_str {w : World} {g n c : Nat} {l : List Nat} (hb : Byt l) (hl : l.length = n) (hc : ∀ j, j < n → w.cell? ⟨g, j, none⟩ = some (.int .u8 (nth l j : Nat))) :
    (convert 119 9 (.slice (some ⟨g, 0, none⟩) n c)).run Tryz.prog w = .ok (.string (str l)) w := by
  have h := run_convert_bytes_back (P := Tryz.prog) w 119 9 5 ⟨g, 0, none⟩ c (l.map UInt8.ofNat) Tryz.underlying119 Tryz.underlying5 Tryz.underlying9 (fun j hj => by
    rw [List.length_map] at hj
    have e : (l.map UInt8.ofNat)[j] = UInt8.ofNat l[j] := by simp
    rw [e, ofNat_toNat (hb _ (List.getElem_mem hj))]
    have := hc j (by omega)
    rw [nth_eq, List.getElem?_eq_getElem hj] at this
    rw [← (show w.cell? ⟨g, j, none⟩ = some (.int .u8 (l[j] : Int)) from this)]
    by_cases h0 : j = 0 <;> simp [Addr.add, h0])
  rw [List.length_map, hl] at h
  exact h
theorem OwnB.conv {w : World} {base g n c : Nat} {l : List Nat} (h : OwnB w base (.slice (some ⟨g, 0, none⟩) n c) l) :
    (convert 119 9 (.slice (some ⟨g, 0, none⟩) n c)).run Tryz.prog w = .ok (.string (str l)) w :=
  conv_str h.byt h.len (fun _ hj => h.cell hj)

/-- '[]byte(s)': a new row that may be written where the bytes lie. -/
theorem conv_bytes (w : World) {T : List Nat} (hb : Byt T) : ∃ c w4, (convert 9 119 (.string (str T))).run Tryz.prog w = .ok (.slice (some ⟨w.heap.size, 0, none⟩) T.length c) w4 ∧ T.length ≤ c ∧ Below w.heap.size w w4 ∧
    (∀ j, j < T.length → w4.cell? ⟨w.heap.size, j, none⟩ = some (.int .u8 (nth T j : Nat))) ∧ (∀ j, j < T.length → w4.frozen? ⟨w.heap.size, j, none⟩ = false) := by
  have hcv := run_bytes_of_string (P := Tryz.prog) w 9 119 5 (str T) Tryz.underlying9 Tryz.underlying119 Tryz.underlying5
  rw [str_size] at hcv
  obtain ⟨R, hR⟩ : ∃ R, R = bytesRow (str T) (grownCap w T.length 0 5) := ⟨_, rfl⟩
  have hRs : T.length ≤ R.size := by
    rw [hR]
    unfold bytesRow
    rw [Array.size_append, Array.size_map]
    have : (str T).data.size = T.length := str_size T
    omega
  have hcap : T.length ≤ grownCap w T.length 0 5 := grownCap_ge ..
  rw [← hR] at hcv
  refine ⟨_, _, hcv, hcap, ((Below.refl w.heap.size w).drew).alloc (Nat.le_refl _) _, fun j hj => ?_, fun j hj => ?_⟩
  · have h1 := World.cell?_alloc_mark w.drew R 5 (R.size, R.size + 1) j
    have h2 := bytesRow_at (str T) (grownCap w T.length 0 5) j (by rw [show (str T).data.size = T.length from str_size T]; exact hj)
    rw [← hR] at h2
    have h3 : ((str T).data[j]'(by rw [show (str T).data.size = T.length from str_size T]; exact hj)).toNat = nth T j := str_get hb j (by rw [str_size]; exact hj)
    rw [h2, h3] at h1
    exact h1
  · have h1 := World.frozen?_alloc_mark w.drew R 5 R.size (R.size + 1) j
    rw [decide_eq_false (by omega), Bool.false_and] at h1
    exact h1

/-- A text; nothing that was there has turned. -/
def RetS (w : World) (l : List Nat) (e : Ending) (w' : World) : Prop := e = .returned (.string (str l)) ∧ Below w.heap.size w w'

end Go.Proofs.YtpgiolbnmlbjbaaGreatDoor
