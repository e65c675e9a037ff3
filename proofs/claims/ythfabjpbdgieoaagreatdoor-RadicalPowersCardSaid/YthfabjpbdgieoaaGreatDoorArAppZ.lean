/- Rows of dyadics and of fractions that a call collects by append; none of their cells is a digit. -/
import Derived.Test.YthfabjpbdgieoaaGreatDoorBaseZZ
import Derived.Test.YthfabjpbdgieoaaGreatDoorBaseXZ
import Derived.Laws.AppendOwn
import Derived.Laws.OwnMore
import Derived.Lib.SmallJoins
namespace Go.Proofs.YthfabjpbdgieoaaGreatDoor
open Go.RowKit
set_option linter.unusedVariables false
set_option linter.unusedSimpArgs false
set_option maxRecDepth 100000
attribute [local go_sem ↓] Go.wp_at_zero Go.wp_at_succ

/-- No cell of a block is a digit of a natural. -/
def NoDig (w : World) (g : Nat) : Prop := ∀ (j : Nat) (x : Int), w.cell? ⟨g, j, none⟩ ≠ some (.int .u32 x)
def OwnC (w : World) (B : Nat) (e : TypeId) (v : Value) (n : Nat) (xs : List Value) : Prop := w.ownsRow B e 3 v n xs ∧ ∀ g, v.ownBlock = some g → NoDig w g
theorem IsN.kept {w w' : World} {row : Option Nat} {v : Value} {x : Nat} (h : IsN w v x) (hg : w.grownBy w' row) (hn : ∀ g, row = some g → NoDig w g) : IsN w' v x := by
  obtain ⟨A, n, c, e, hs⟩ := h
  refine ⟨A, n, c, e, hs.len, hs.cap, hs.most, hs.small, fun hp => ?_⟩
  obtain ⟨b, off, h1, h2, h3⟩ := hs.place hp
  have hne : some b ≠ row := fun he => hn b he.symm (off + 0) _ (h3 0 hp)
  exact ⟨b, off, h1, Nat.lt_of_lt_of_le h2 hg.size, fun j hj => hg.cell (a := ⟨b, off + j, none⟩) (h3 j hj) hne⟩
theorem IsP.kept {w w' : World} {row : Option Nat} {v : Value} {a : Int} {d : Nat} (h : IsP w v a d) (hg : w.grownBy w' row) (hn : ∀ g, row = some g → NoDig w g) : IsP w' v a d := by
  obtain ⟨s, t, e, h1, h2⟩ := h
  exact ⟨s, t, e, h1.kept hg hn, h2.kept hg hn⟩
theorem OwnC.nil (w : World) (B : Nat) (e : TypeId) : OwnC w B e (.slice none 0 0) 0 [] := ⟨World.ownsRow_nil w B e 3, fun g h => by cases h⟩
theorem OwnC.below {w w' : World} {B n : Nat} {e : TypeId} {v : Value} {xs : List Value} (h : OwnC w B e v n xs) (hb : Below w.heap.size w w') : OwnC w' B e v n xs := by
  obtain ⟨h0, hd⟩ := h
  have hlt := h0.lt
  obtain ⟨h1, h2⟩ := h0
  refine ⟨⟨h1, ?_⟩, fun g hg j x hc => hd g hg j x ?_⟩
  · rcases h2 with h2 | ⟨g, cap, cur, e1, e2, e3, e4⟩
    · exact .inl h2
    · refine .inr ⟨g, cap, cur, e1, e2, ?_, e4⟩
      rw [hb.block g (hlt g (by rw [e1]; rfl)).2]; exact e3
  · rw [← hb.cell (p := ⟨g, j, none⟩) (hlt g hg).2]; exact hc
theorem OwnC.blockGe {w : World} {B n : Nat} {e : TypeId} {v : Value} {xs : List Value} (h : OwnC w B e v n xs) : ∀ g, v.ownBlock = some g → B ≤ g := fun g hg => (h.1.lt g hg).1
theorem noDig_row {w : World} {g : Nat} {cs : Array Value} {t : TypeId} {fr : Nat × Nat} (hg : w.heap[g]? = some (.cells cs t fr)) (h : ∀ u ∈ cs, ∀ x : Int, u ≠ .int .u32 x) : NoDig w g := fun j x hc => by
  rw [cell_of_row w g j cs t fr hg] at hc
  exact h _ (Array.mem_of_getElem? hc) x rfl
theorem zeroCells_nd {z : Array Value} (hz : ∀ u ∈ z, ∀ x : Int, u ≠ .int .u32 x) (n : Nat) : ∀ u ∈ Builtin.zeroCells z n, ∀ x : Int, u ≠ .int .u32 x := fun u hu x => by
  unfold Builtin.zeroCells at hu
  rw [Array.mem_map] at hu
  obtain ⟨k, hk, rfl⟩ := hu
  have hk' : k < n * z.size := Array.mem_range.1 hk
  have h0 : 0 < z.size := by
    rcases Nat.eq_zero_or_pos z.size with h | h
    · rw [h] at hk'; omega
    · exact h
  have hm := Nat.mod_lt k h0
  rw [getElem!_pos z (k % z.size) hm]
  exact hz _ (Array.getElem_mem hm) x
set_option maxHeartbeats 1000000 in
theorem run_app3 (w : World) (B : Nat) (t ty e : TypeId) (i : TypeInfo) (z : Value) (bytes : Nat) (ht : Tryz.prog.underlying t = some (.slice e)) (hi : Tryz.prog.info? e = some i) (hz : i.zero = some z) (hsize : i.size = 3) (hby : i.bytes = bytes) (hzs : z.cells.size = 3) (hzd : ∀ u ∈ z.cells, ∀ x : Int, u ≠ .int .u32 x)
    (v : Value) (n : Nat) (xs : List Value) (hown : OwnC w B e v n xs) (a : Addr) (c : Nat) (news : List Value) (hl : news.length = 3) (hnews : ∀ j u, news[j]? = some u → w.cell? (a.add j) = some u) (h1 : ∀ u ∈ news, u.oneCell' = true) (hnd : ∀ u ∈ news, ∀ x : Int, u ≠ .int .u32 x) (hn : n ≤ 1000000) (hb : bytes ≤ 1000) (hbase : B ≤ w.heap.size) :
    ∃ v' w', (Builtin.append_ #[t, t] ty #[v, .slice (some a) 1 c]).run Tryz.prog w = .ok v' w' ∧ OwnC w' B e v' (n + 1) (xs ++ news) ∧ w.grownBy w' v.ownBlock := by
  have hbn : (n + 1) * bytes ≤ 1000001 * 1000 := Nat.mul_le_mul (by omega) hb
  obtain ⟨v', w', hr, h2, h3, _⟩ := run_append_own (P := Tryz.prog) w B t ty e i z 3 bytes ht hi hz hsize hby hzs (by omega) v n xs hown.1 a 1 c news (by omega) hnews h1 (by unfold maxLen; omega) (by omega) hbase
  refine ⟨v', w', hr, ⟨h2, ?_⟩, h3⟩
  have zer := zeroCells_nd hzd
  have hxs : ∀ u ∈ xs, ∀ x : Int, u ≠ .int .u32 x := fun u hu x he => by
    rcases hown.1.2 with ⟨_, rfl⟩ | ⟨g, cap, cur, rfl, hbg, hg, hnc, hcm, hcs, htake⟩
    · have := hown.1.1
      rw [List.eq_nil_of_length_eq_zero (l := xs) (by omega)] at hu
      cases hu
    · rw [← htake] at hu
      obtain ⟨j, hj, rfl⟩ := List.getElem_of_mem (List.mem_of_mem_take hu)
      refine hown.2 g rfl j x ?_
      simp only [Array.length_toList] at hj
      rw [cell_of_row w g j cur e (0, 0) hg, Array.getElem?_eq_getElem hj]
      exact congrArg some (by simpa using he)
  rcases hown.1.2 with ⟨rfl, rfl⟩ | ⟨g, cap, cur, rfl, hbg, hg, hnc, hcm, hcs, htake⟩
  · have hr2 := run_append_nil (P := Tryz.prog) w t ty e i z ht hi hz a 1 c news (by rw [hsize]; omega) hnews (by omega) (by omega) (by rw [hby]; omega)
    rw [hr2] at hr
    simp only [Result.ok.injEq] at hr
    obtain ⟨rfl, rfl⟩ := hr
    intro g hg
    obtain rfl : w.heap.size = g := by simpa [Value.ownBlock] using hg
    refine noDig_row (heap_alloc_new w.drew _) (fun u hu x => ?_)
    rw [Array.mem_append] at hu
    rcases hu with hu | hu
    · exact hnd u (by simpa using hu) x
    · exact zer _ u hu x
  · by_cases hroom : n + 1 ≤ cap
    · have hfit : n * i.size + news.length ≤ cur.size := by rw [hsize, hl, hcs]; omega
      have hr2 := run_append_room (P := Tryz.prog) w t ty e i ht hi g n cap cur hg a 1 c news (by rw [hsize]; omega) hnews h1 hroom hfit
      rw [hr2] at hr
      simp only [Result.ok.injEq] at hr
      obtain ⟨rfl, rfl⟩ := hr
      intro g' hg'
      obtain rfl : g = g' := by simpa [Value.ownBlock] using hg'
      refine noDig_row (setRow_heap w g cur _ e _ hg) (fun u hu x he => ?_)
      have hcur : ∀ u ∈ cur.toList, ∀ x : Int, u ≠ .int .u32 x := fun u hu x he => by
        obtain ⟨j, hj, rfl⟩ := List.getElem_of_mem hu
        refine hown.2 g rfl j x ?_
        simp only [Array.length_toList] at hj
        rw [cell_of_row w g j cur e (0, 0) hg, Array.getElem?_eq_getElem hj]
        exact congrArg some (by simpa using he)
      rw [List.mem_toArray, List.mem_append, List.mem_append] at hu
      rcases hu with (hu | hu) | hu
      · exact hcur u (List.mem_of_mem_take hu) x he
      · exact hnd u hu x he
      · exact hcur u (List.mem_of_mem_drop hu) x he
    · have holds : ∀ j u, xs[j]? = some u → w.cell? ((⟨g, 0, none⟩ : Addr).add j) = some u := hown.1.cells (g := g) rfl
      have hr2 := run_append_grow (P := Tryz.prog) w t ty e i z ht hi hz ⟨g, 0, none⟩ n cap xs (by rw [hsize]; exact hown.1.1) holds a 1 c news (by rw [hsize]; omega) hnews (by omega) (by omega) (growslice_fits (by omega) (by rw [hby]; omega))
      rw [hr2] at hr
      simp only [Result.ok.injEq] at hr
      obtain ⟨rfl, rfl⟩ := hr
      intro g' hg'
      obtain rfl : w.heap.size = g' := by simpa [Value.ownBlock] using hg'
      refine noDig_row (heap_alloc_new w.drew _) (fun u hu x => ?_)
      rw [Array.mem_append, Array.mem_append] at hu
      rcases hu with (hu | hu) | hu
      · exact hxs u (by simpa using hu) x
      · exact hnd u (by simpa using hu) x
      · exact zer _ u hu x
theorem wpList_app3 (w : World) {ops : Array Oper} {rest : List Oper} {o : Oper} {a : Act} {Q : Exit → Act → World → Prop} (hgd : o.guard = none) (s x : Operand) (t : TypeId)
    (ho : o.op = .call { callee := .builtin .append, args := #[s, x], argTypes := #[t, t] })
    (B : Nat) (e : TypeId) (i : TypeInfo) (z : Value) (bytes : Nat) (ht : Tryz.prog.underlying t = some (.slice e)) (hi : Tryz.prog.info? e = some i) (hz : i.zero = some z) (hsize : i.size = 3) (hby : i.bytes = bytes) (hzs : z.cells.size = 3) (hzd : ∀ u ∈ z.cells, ∀ x : Int, u ≠ .int .u32 x)
    (v : Value) (n : Nat) (xs : List Value) (hs : a.eval s = v) (hown : OwnC w B e v n xs) (ad : Addr) (c : Nat) (news : List Value) (hx : a.eval x = .slice (some ad) 1 c) (hl : news.length = 3) (hnews : ∀ j u, news[j]? = some u → w.cell? (ad.add j) = some u) (h1 : ∀ u ∈ news, u.oneCell' = true) (hnd : ∀ u ∈ news, ∀ x : Int, u ≠ .int .u32 x) (hn : n ≤ 1000000) (hb : bytes ≤ 1000) (hbase : B ≤ w.heap.size)
    (h : ∀ v' w', OwnC w' B e v' (n + 1) (xs ++ news) → w.grownBy w' v.ownBlock → wpList Tryz.prog ops Q rest (a.put o.dst v') w') : wpList Tryz.prog ops Q (o :: rest) a w :=
  wpList_plain hgd fun _ hK => by
    obtain ⟨v', w', hr, h2, h3⟩ := run_app3 w B t o.type e i z bytes ht hi hz hsize hby hzs hzd v n xs hown ad c news hl hnews h1 hnd hn hb hbase
    unfold Oper.wp execOp
    simp only [ho, resolve, invoke, builtin, Sem.run_bind, Sem.run_pure, Result.andThen_ok, List.map_toArray, List.map_cons, List.map_nil, hs, hx, hr]
    exact hK _ _ (h v' w' h2 h3)
theorem info_ra11 : (Tryz.prog.info? 57).map (fun i => (i.zero, i.size, i.bytes)) = some (some (.agg #[.bool false, .slice none 0 0, .slice none 0 0]), 3, 56) := by kernel_rfl
def OwnDy (w : World) (B : Nat) (v : Value) (l : List (Int × Int)) : Prop := ∃ xs, OwnC w B 26 v l.length xs ∧ ∀ (j : Nat) (p : Int × Int), l[j]? = some p → ∃ A c, xs[3 * j]? = some (.bool (ng p.1)) ∧ xs[3 * j + 1]? = some (.slice A (zl p.1) c) ∧ xs[3 * j + 2]? = some (.int .i64 p.2) ∧ IsN w (.slice A (zl p.1) c) p.1.natAbs
theorem OwnDy.nil (w : World) (B : Nat) : OwnDy w B (.slice none 0 0) [] := ⟨[], OwnC.nil w B _, fun j p h => by simp at h⟩
theorem OwnDy.below {w w' : World} {B : Nat} {v : Value} {l : List (Int × Int)} (h : OwnDy w B v l) (hb : Below w.heap.size w w') : OwnDy w' B v l := by
  obtain ⟨xs, h1, h2⟩ := h
  refine ⟨xs, h1.below hb, fun j p hp => ?_⟩
  obtain ⟨A, c, a1, a2, a3, a4⟩ := h2 j p hp
  exact ⟨A, c, a1, a2, a3, a4.mono hb⟩
theorem OwnDy.blockGe {w : World} {B : Nat} {v : Value} {l : List (Int × Int)} (h : OwnDy w B v l) : ∀ g, v.ownBlock = some g → B ≤ g := by
  obtain ⟨xs, h1, h2⟩ := h
  exact h1.blockGe
theorem OwnDy.row {w : World} {B : Nat} {v : Value} {l : List (Int × Int)} (h : OwnDy w B v l) (h0 : 0 < l.length) : RowD w v l := by
  obtain ⟨xs, h1, h2⟩ := h
  obtain ⟨g, cap, rfl⟩ := Go.Joins.ownsRow_form h1.1 (by omega)
  refine ⟨g, cap, rfl, (h1.1.lt g rfl).2, fun j p hp => ?_⟩
  obtain ⟨A, c, a1, a2, a3, a4⟩ := h2 j p hp
  have hj : j < l.length := by
    rcases Nat.lt_or_ge j l.length with h | h
    · exact h
    · rw [List.getElem?_eq_none h] at hp; cases hp
  exact ⟨A, c, by rw [h1.1.cellAt _ (by omega)]; exact a1, by rw [h1.1.cellAt _ (by omega)]; exact a2, by rw [h1.1.cellAt _ (by omega)]; exact a3, a4⟩
def OwnRa (w : World) (B : Nat) (v : Value) (l : List (Int × Nat)) : Prop := ∃ xs, OwnC w B 57 v l.length xs ∧ ∀ (j : Nat) (p : Int × Nat), l[j]? = some p → ∃ A c B k, xs[3 * j]? = some (.bool (ng p.1)) ∧ xs[3 * j + 1]? = some (.slice A (zl p.1) c) ∧ xs[3 * j + 2]? = some (.slice B (len p.2) k) ∧ IsP w (.agg #[.bool (ng p.1), .slice A (zl p.1) c, .slice B (len p.2) k]) p.1 p.2
theorem OwnRa.nil (w : World) (B : Nat) : OwnRa w B (.slice none 0 0) [] := ⟨[], OwnC.nil w B _, fun j p h => by simp at h⟩
theorem OwnRa.below {w w' : World} {B : Nat} {v : Value} {l : List (Int × Nat)} (h : OwnRa w B v l) (hb : Below w.heap.size w w') : OwnRa w' B v l := by
  obtain ⟨xs, h1, h2⟩ := h
  refine ⟨xs, h1.below hb, fun j p hp => ?_⟩
  obtain ⟨A, c, B, k, a1, a2, a3, a4⟩ := h2 j p hp
  exact ⟨A, c, B, k, a1, a2, a3, a4.mono hb⟩
theorem OwnRa.blockGe {w : World} {B : Nat} {v : Value} {l : List (Int × Nat)} (h : OwnRa w B v l) : ∀ g, v.ownBlock = some g → B ≤ g := by
  obtain ⟨xs, h1, h2⟩ := h
  exact h1.blockGe
theorem OwnRa.row {w : World} {B : Nat} {v : Value} {l : List (Int × Nat)} (h : OwnRa w B v l) (h0 : 0 < l.length) : RowR w v l := by
  obtain ⟨xs, h1, h2⟩ := h
  obtain ⟨g, cap, rfl⟩ := Go.Joins.ownsRow_form h1.1 (by omega)
  refine ⟨g, cap, rfl, (h1.1.lt g rfl).2, fun j p hp => ?_⟩
  obtain ⟨A, c, B, k, a1, a2, a3, a4⟩ := h2 j p hp
  have hj : j < l.length := by
    rcases Nat.lt_or_ge j l.length with h | h
    · exact h
    · rw [List.getElem?_eq_none h] at hp; cases hp
  exact ⟨A, c, B, k, by rw [h1.1.cellAt _ (by omega)]; exact a1, by rw [h1.1.cellAt _ (by omega)]; exact a2, by rw [h1.1.cellAt _ (by omega)]; exact a3, a4⟩
set_option maxHeartbeats 1000000 in
theorem wp_appRa (w : World) {ops : Array Oper} {rest : List Oper} {o : Oper} {a : Act} {Q : Exit → Act → World → Prop} (hgd : o.guard = none) (s x : Operand)
    (ho : o.op = .call { callee := .builtin .append, args := #[s, x], argTypes := #[86, 86] })
    (B : Nat) (v : Value) (l : List (Int × Nat)) (hs : a.eval s = v) (hO : OwnRa w B v l) (g : Nat) {A : Option Addr} {m : Int} {c : Nat} {B2 : Option Addr} {e k : Nat} (cp : Nat) (hx : a.eval x = .slice (some ⟨g, 0, none⟩) 1 cp) (hc : ∀ j u, [.bool (ng m), .slice A (zl m) c, .slice B2 (len e) k][j]? = some u → w.cell? ⟨g, j, none⟩ = some u) (hN : IsP w (.agg #[.bool (ng m), .slice A (zl m) c, .slice B2 (len e) k]) m e) (hk : l.length < 1000000) (hbase : B ≤ w.heap.size)
    (h : ∀ v' w', OwnRa w' B v' (l ++ [(m, e)]) → w.grownBy w' v.ownBlock → (∀ u x, IsN w u x → IsN w' u x) → wpList Tryz.prog ops Q rest (a.put o.dst v') w') : wpList Tryz.prog ops Q (o :: rest) a w := by
  obtain ⟨i0, hi, hz0, hz1, hz2⟩ := info_parts info_ra11
  obtain ⟨xs, h1, h2⟩ := hO
  have hxl := h1.1.1
  refine wpList_app3 w hgd s x 86 ho B 57 i0 _ 56 Tryz.underlying86 hi hz0 hz1 hz2 rfl ?_ v l.length xs hs h1 ⟨g, 0, none⟩ cp [.bool (ng m), .slice A (zl m) c, .slice B2 (len e) k] hx rfl ?_ ?_ ?_ (by omega) (by omega) hbase ?_
  · intro u hu x
    simp only [Value.cells, List.mem_toArray, List.mem_cons, List.not_mem_nil, or_false] at hu
    rcases hu with rfl | rfl | rfl <;> simp
  · intro j u hj
    rw [show ((⟨g, 0, none⟩ : Addr).add j) = ⟨g, j, none⟩ from by by_cases h0 : j = 0 <;> simp [Addr.add, h0]]
    exact hc j u hj
  · intro u hu
    simp only [List.mem_cons, List.not_mem_nil, or_false] at hu
    rcases hu with rfl | rfl | rfl <;> rfl
  · intro u hu x
    simp only [List.mem_cons, List.not_mem_nil, or_false] at hu
    rcases hu with rfl | rfl | rfl <;> simp
  · intro v' w' hr hg
    refine h v' w' ⟨xs ++ [.bool (ng m), .slice A (zl m) c, .slice B2 (len e) k], by rw [List.length_append]; exact hr, fun j p hp => ?_⟩ hg (fun u x hu => hu.kept hg h1.2)
    rcases Nat.lt_or_ge j l.length with hjk | hjk
    · rw [List.getElem?_append_left hjk] at hp
      obtain ⟨A, c, B, k, a1, a2, a3, a4⟩ := h2 j p hp
      exact ⟨A, c, B, k, by rw [List.getElem?_append_left (by omega)]; exact a1, by rw [List.getElem?_append_left (by omega)]; exact a2, by rw [List.getElem?_append_left (by omega)]; exact a3, a4.kept hg h1.2⟩
    · rw [List.getElem?_append_right hjk] at hp
      obtain rfl : j = l.length := by
        rcases Nat.eq_or_lt_of_le hjk with h | h
        · exact h.symm
        · rw [List.getElem?_eq_none (by simp; omega)] at hp; cases hp
      obtain rfl : (m, e) = p := by simpa using hp
      exact ⟨A, c, B2, k, by rw [List.getElem?_append_right (by omega), show 3 * l.length - xs.length = 0 from by omega]; rfl, by rw [List.getElem?_append_right (by omega), show 3 * l.length + 1 - xs.length = 1 from by omega]; rfl, by rw [List.getElem?_append_right (by omega), show 3 * l.length + 2 - xs.length = 2 from by omega]; rfl, hN.kept hg h1.2⟩


end Go.Proofs.YthfabjpbdgieoaaGreatDoor
