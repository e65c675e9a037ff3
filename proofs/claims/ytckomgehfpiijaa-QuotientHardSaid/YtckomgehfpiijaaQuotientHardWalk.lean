/- The walk of QuotientHard: whatever the input, the law returns true and turns nothing that was there. -/
import Derived.Test.YtckomgehfpiijaaAwake3
import Derived.Deep.RegionWith
import Derived.Deep.RegionLaw
import Derived.Deep.OwnRows
import Derived.Deep.Cut
import Derived.Deep.CutRange
namespace Go.Proofs.Ytckomgehfpiijaa
open Go.RowKit

/-- An empty row, and a row of one element, wherever they lie. -/
theorem own_nil_at (w : World) (g base : Nat) (h : w.heap[g]? = some (.cells #[] 27 (0, 0))) (hb : base ≤ g) : Own w base (.slice (some ⟨g, 0, none⟩) 0 0) [] :=
  own_of_row (l := []) h hb small_nil (Nat.zero_le _)
theorem sl_one (w : World) (g x : Nat) (h : w.cell? ⟨g, 0, none⟩ = some (.int .u32 (x : Int))) (hx : x < 4294967296) : Sl w (some ⟨g, 0, none⟩) 1 1 [x] :=
  ⟨rfl, Nat.le_refl _, by unfold maxLen; omega, small_one hx, fun _ => ⟨g, 0, rfl, World.block_lt_of_cell? w ⟨g, 0, none⟩ h, fun j hj => by
    obtain rfl : j = 0 := by omega
    exact h⟩⟩

theorem heap_top (w : World) (o : Obj) {g : Nat} (h : w.heap.size = g) : (w.alloc o).heap[g]? = some o := by
  subst h
  show (w.heap.push o)[w.heap.size]? = _
  simp
theorem heap_low (w : World) (o : Obj) {g : Nat} (h : g < w.heap.size) : (w.alloc o).heap[g]? = w.heap[g]? := by
  show (w.heap.push o)[g]? = _
  rw [Array.getElem?_push_lt h, Array.getElem?_eq_getElem h]
/-- What one or two or three allocations and a draw leave. -/
theorem below1 {w : World} {sz : Nat} (h : w.heap.size = sz) (a : Obj) : Below sz w (w.alloc a).drew := by
  subst h
  exact ((Below.refl _ _).alloc (Nat.le_refl _) _).drew
theorem below2 {w : World} {sz : Nat} (h : w.heap.size = sz) (a b : Obj) : Below sz w ((w.alloc a).alloc b).drew := by
  subst h
  exact (((Below.refl _ _).alloc (Nat.le_refl _) _).alloc (by simp) _).drew
theorem below3 {w : World} {sz : Nat} (h : w.heap.size = sz) (a b c : Obj) : Below sz w (((w.alloc a).alloc b).alloc c).drew := by
  subst h
  exact ((((Below.refl _ _).alloc (Nat.le_refl _) _).alloc (by simp) _).alloc (by simp; omega) _).drew
theorem nil1 {w : World} {sz : Nat} (h : w.heap.size = sz) : Own (w.alloc (.cells #[] 27)).drew sz (.slice (some ⟨sz, 0, none⟩) 0 0) [] :=
  own_nil_at _ _ _ (heap_top _ _ h) (Nat.le_refl _)
theorem nil2 {w : World} {sz : Nat} (h : w.heap.size = sz) (a : Obj) : Own ((w.alloc (.cells #[] 27)).alloc a).drew sz (.slice (some ⟨sz, 0, none⟩) 0 0) [] :=
  own_nil_at _ _ _ ((heap_low _ _ (by simp [h])).trans (heap_top _ _ h)) (Nat.le_refl _)
theorem nil2' {w : World} {sz : Nat} (h : w.heap.size = sz) (a : Obj) : Own ((w.alloc a).alloc (.cells #[] 27)).drew sz (.slice (some ⟨sz + 1, 0, none⟩) 0 0) [] :=
  own_nil_at _ _ _ (heap_top _ _ (by simp [h])) (Nat.le_succ _)
theorem nil3 {w : World} {sz : Nat} (h : w.heap.size = sz) (a b : Obj) : Own (((w.alloc (.cells #[] 27)).alloc a).alloc b).drew sz (.slice (some ⟨sz, 0, none⟩) 0 0) [] :=
  own_nil_at _ _ _ (((heap_low _ _ (by simp [h]; omega)).trans (heap_low _ _ (by simp [h]))).trans (heap_top _ _ h)) (Nat.le_refl _)
theorem nil3' {w : World} {sz : Nat} (h : w.heap.size = sz) (a b : Obj) : Own (((w.alloc a).alloc (.cells #[] 27)).alloc b).drew sz (.slice (some ⟨sz + 1, 0, none⟩) 0 0) [] :=
  own_nil_at _ _ _ ((heap_low _ _ (by simp [h])).trans (heap_top _ _ (by simp [h]))) (Nat.le_succ _)
theorem nil3'' {w : World} {sz : Nat} (h : w.heap.size = sz) (a b : Obj) : Own (((w.alloc a).alloc b).alloc (.cells #[] 27)).drew sz (.slice (some ⟨sz + 1 + 1, 0, none⟩) 0 0) [] :=
  own_nil_at _ _ _ (heap_top _ _ (by simp [h])) (by omega)

theorem cell_top {w : World} {cs : Array Value} {t : TypeId} {g j : Nat} {v : Value} (h : w.heap.size = g) (hv : cs[j]? = some v) : (w.alloc (.cells cs t)).cell? ⟨g, j, none⟩ = some v := by
  rw [cell_of_row _ g j cs t _ (heap_top _ _ h)]
  exact hv
theorem cell_low {w : World} {o : Obj} {g j : Nat} (h : g < w.heap.size) : (w.alloc o).cell? ⟨g, j, none⟩ = w.cell? ⟨g, j, none⟩ :=
  World.cell?_of_block (heap_low _ _ h)
theorem cell2 {w : World} {sz j : Nat} {cs : Array Value} {t : TypeId} {v : Value} {a : Obj} (h : w.heap.size = sz) (hv : cs[j]? = some v) : ((w.alloc a).alloc (.cells cs t)).drew.cell? ⟨sz + 1, j, none⟩ = some v := cell_top (w := w.alloc a) (by simp [h]) hv
theorem cell2' {w : World} {sz j : Nat} {cs : Array Value} {t : TypeId} {v : Value} {a : Obj} (h : w.heap.size = sz) (hv : cs[j]? = some v) : ((w.alloc (.cells cs t)).alloc a).drew.cell? ⟨sz, j, none⟩ = some v := (cell_low (w := w.alloc (.cells cs t)) (by simp [h])).trans (cell_top h hv)
theorem cell3 {w : World} {sz j : Nat} {cs : Array Value} {t : TypeId} {v : Value} {a b : Obj} (h : w.heap.size = sz) (hv : cs[j]? = some v) : (((w.alloc a).alloc b).alloc (.cells cs t)).drew.cell? ⟨sz + 1 + 1, j, none⟩ = some v := cell_top (w := (w.alloc a).alloc b) (by simp [h]) hv
theorem cell3' {w : World} {sz j : Nat} {cs : Array Value} {t : TypeId} {v : Value} {a b : Obj} (h : w.heap.size = sz) (hv : cs[j]? = some v) : (((w.alloc a).alloc (.cells cs t)).alloc b).drew.cell? ⟨sz + 1, j, none⟩ = some v := (cell_low (w := (w.alloc a).alloc (.cells cs t)) (by simp [h])).trans (cell_top (w := w.alloc a) (by simp [h]) hv)

/-- 'append(s, t...)' as one step of a region that draws its order. -/
theorem step_appS {w : World} {ops : Array Oper} {o : Oper} {a : Act} {K : Act → World → Prop} {Q : Exit → Act → World → Prop} {E : Prop} (hgd : o.guard = none) (s x : Operand)
    (ho : o.op = .call { callee := .builtin .append, args := #[s, x], argTypes := #[22, 22] })
    (base : Nat) (v : Value) (l : List Nat) (hs : a.eval s = v) (hown : Own w base v l) (A : Option Addr) (n c : Nat) (t : List Nat) (hx : a.eval x = .slice A n c) (ht : Sl w A n c t)
    (hl : l.length + n ≤ 35184372088832) (hbase : base ≤ w.heap.size)
    (h : ∀ v' w', Own w' base v' (l ++ t) → w.grownBy w' v.ownBlock → K (a.put o.dst v') w') :
    if Region.wanted o (yielded ops a.tmps) = true then Oper.wp Try.prog o a w K Q else E := by
  have hw : Region.wanted o (yielded ops a.tmps) = true := by simp [Region.wanted, hgd]
  rw [if_pos hw]
  obtain ⟨i0, hi, hz0, hz1, hz2⟩ := info_parts info_u32
  cases A with
  | some ad =>
    refine wp_append_own w s x 22 ho base 27 i0 (.int .u32 0) 1 4 Try.underlying22 hi hz0 hz1 hz2 rfl (by decide) v l.length (u32s l) hs hown.1 ad n c (u32s t) hx (by rw [length_u32s, ht.len]; omega) ?_ (u32s_oneCell t) (by unfold maxLen; omega) (by omega) hbase ?_
    · intro j u hj
      have hjt : j < t.length := by
        rcases Nat.lt_or_ge j t.length with h1 | h1
        · exact h1
        · rw [List.getElem?_eq_none (by rw [length_u32s]; exact h1)] at hj; cases hj
      have hlen := ht.len
      obtain ⟨b, off, e, _, hc⟩ := ht.place (by omega)
      injection e with e
      subst e
      rw [u32s_get hjt] at hj
      have hcj := hc j (by omega)
      rw [← hj, ← hcj]
      by_cases h0 : j = 0 <;> simp [Addr.add, h0]
    · intro v' w' h1 h2 _
      refine h v' w' ⟨?_, small_append hown.2 ht.small⟩ h2
      rw [List.length_append, ht.len, u32s_append]
      exact h1
  | none =>
    have hn : n = 0 := by
      rcases Nat.eq_zero_or_pos n with h0 | h0
      · exact h0
      · obtain ⟨_, _, e, _⟩ := ht.place h0
        cases e
    subst hn
    have htn : t = [] := List.eq_nil_of_length_eq_zero ht.len
    subst htn
    have hrun : (Builtin.append_ #[22, 22] o.type #[v, .slice none 0 c]).run Try.prog w = .ok v w := by
      rcases hown.1.2 with ⟨rfl, _⟩ | ⟨g, cap, cur, rfl, _, _, hnc, _⟩
      · simp [Builtin.append_, run_underlying Try.underlying22, sizeOf, typeInfo, hi, Builtin.lenOf, Builtin.firstCells]
      · simp [Builtin.append_, run_underlying Try.underlying22, sizeOf, typeInfo, hi, Builtin.lenOf, Builtin.firstCells, hnc, storeCells]
    unfold Oper.wp execOp
    simp only [ho, resolve, invoke, builtin, Sem.run_bind, Sem.run_pure, Result.andThen_ok, List.map_toArray, List.map_cons, List.map_nil, hs, hx, hrun]
    exact h v w (by rw [List.append_nil]; exact hown) (World.grownBy.refl w _)

/-- The same, and what has turned. -/
theorem step_appB {w3 w : World} {sz : Nat} {ops : Array Oper} {o : Oper} {a : Act} {K : Act → World → Prop} {Q : Exit → Act → World → Prop} {E : Prop} (hsz : w3.heap.size = sz) (hbel : Below sz w3 w) (hgd : o.guard = none) (s x : Operand)
    (ho : o.op = .call { callee := .builtin .append, args := #[s, x], argTypes := #[22, 22] })
    (v : Value) (l : List Nat) (hs : a.eval s = v) (hown : Own w sz v l) (A : Option Addr) (n c : Nat) (t : List Nat) (hx : a.eval x = .slice A n c) (ht : Sl w A n c t)
    (hl : l.length + n ≤ 35184372088832)
    (h : ∀ v' w', Own w' sz v' (l ++ t) → Below sz w3 w' → w.grownBy w' v.ownBlock → K (a.put o.dst v') w') :
    if Region.wanted o (yielded ops a.tmps) = true then Oper.wp Try.prog o a w K Q else E := by
  have hle : sz ≤ w.heap.size := by rw [← hsz]; exact hbel.size
  exact step_appS hgd s x ho sz v l hs hown A n c t hx ht hl hle (fun v' w' h1 h2 => h v' w' h1 (hbel.grown h2 hle (fun k hk => hown.blockGe k hk)) h2)
theorem bel1 {w3 w : World} {sz : Nat} (hsz : w3.heap.size = sz) (b : Below sz w3 w) (o : Obj) : Below sz w3 (w.alloc o) := b.alloc (by rw [← hsz]; exact b.size) o
theorem bel2 {w3 w : World} {sz : Nat} (hsz : w3.heap.size = sz) (b : Below sz w3 w) (o p : Obj) : Below sz w3 ((w.alloc o).alloc p) := bel1 hsz (bel1 hsz b o) p

theorem dig_snoc {l : List Nat} {D : Nat} (hs : Small (l ++ [D])) (hD : 0 < D) : dig (val (l ++ [D])) = l ++ [D] := by
  rw [dig_val hs]
  have := trim_of (l := l ++ [D]) (k := (l ++ [D]).length) (Nat.le_refl _) (fun j h1 h2 => by omega) (fun _ => by
    have := nth_mid l [] D rfl
    rw [List.append_nil] at this
    rw [List.length_append]
    show nth (l ++ [D]) (l.length + 1 - 1) ≠ 0
    rw [Nat.add_sub_cancel, this]
    omega)
  rw [this, List.take_length]

set_option maxHeartbeats 4000000 in
theorem walk_QuotientHard (a0 : Option Addr) (len0 cap0 : Nat) (z0 : List Nat) (a1 : Option Addr) (len1 cap1 : Nat) (z1 : List Nat) (a2 : Int) (a3 : Bool) (w : World) (h0 : Sl w a0 len0 cap0 z0) (h1 : Sl w a1 len1 cap1 z1) (hb2 : 0 ≤ a2 ∧ a2 ≤ 4294967295) :
    Calls Try.prog 4 #[.slice a0 len0 cap0, .slice a1 len1 cap1, .int .u32 a2, .bool a3] w fun e w' => e = .returned (.bool true) ∧ Below w.heap.size w w' := by
  obtain ⟨k, hk⟩ : ∃ k : Nat, a2 % 4 = (k : Int) := ⟨(a2 % 4).toNat, by omega⟩
  have hk4 : k < 4 := by omega
  go_enter Try.func4, Try.ntmps4
  go_wp2_with fail
  refine (awake3_any w).mono ?_
  rintro e w1 ⟨rfl, b⟩
  have L := Live.mk b
  clear b
  go_wp2_with fail
  refine (mill_any z0 30 _ _ _ w1 (h0.mono L.below) (by omega)).mono ?_
  rintro e w2 ⟨vx, ok1, x, rfl, ix, lx, b⟩
  replace L := (L.step b).cons ix
  clear b ix
  go_wp2_with fail
  refine (mill_any z1 30 _ _ _ w2 (h1.mono L.below) (by omega)).mono ?_
  rintro e w3 ⟨vy, ok2, y, rfl, ix, ly, b⟩
  replace L := (L.step b).cons ix
  clear b ix
  clear h0 h1
  by_cases hok : (ok1 && ok2) = true
  · simp only [Bool.and_eq_true] at hok
    obtain ⟨rfl, rfl⟩ := hok
    obtain ⟨B, m, d, rfl, hs⟩ := show IsN w3 vy y from L.get (by simp)
    have hm : len y = m := hs.len
    have hm30 : m ≤ 30 := by omega
    have hB : w.heap.size ≤ w3.heap.size := L.below.size
    clear hm
    go_wp2_with fail
    have HS := Lib.hid hs
    clear hs
    obtain ⟨sz, hsz⟩ : ∃ sz, w3.heap.size = sz := ⟨_, rfl⟩
    go_cut [11] from 34 to 43 (fun s11 wx => ∃ D : Nat, 0 < D ∧ D < 4294967296 ∧ Own wx sz s11 (dig y ++ [D]) ∧ Below sz w3 wx)
    case first =>
      rw [← Int.tmod_eq_emod_of_nonneg hb2.1] at hk
      rcases (show k = 0 ∨ k = 1 ∨ k = 2 ∨ k = 3 by omega) with rfl | rfl | rfl | rfl
      · replace hk : a2.tmod 4 = 0 := hk
        go_region_law (first
          | (first
               | refine step_appB hsz ?_ rfl (.tmp 34) (.tmp 35) rfl (.slice (some ⟨sz, 0, none⟩) 0 0) [] rfl ?_ B m d (dig y) rfl ?_ ?_ ?_
               | refine step_appB hsz ?_ rfl (.tmp 34) (.tmp 35) rfl (.slice (some ⟨sz + 1, 0, none⟩) 0 0) [] rfl ?_ B m d (dig y) rfl ?_ ?_ ?_
               | refine step_appB hsz ?_ rfl (.tmp 34) (.tmp 35) rfl (.slice (some ⟨sz + 1 + 1, 0, none⟩) 0 0) [] rfl ?_ B m d (dig y) rfl ?_ ?_ ?_
             · first | exact below1 hsz _ | exact below2 hsz _ _ | exact below3 hsz _ _ _
             · first | exact nil1 hsz | exact nil2 hsz _ | exact nil2' hsz _ | exact nil3 hsz _ _ | exact nil3' hsz _ _ | exact nil3'' hsz _ _
             · refine HS.out.mono ?_
               rw [hsz]
               first | exact below1 hsz _ | exact below2 hsz _ _ | exact below3 hsz _ _ _
             · simp; omega
             intro v' w' h1 b1 h2
             first
               | (refine (fun hc : w'.cell? ⟨sz + 1, 0, none⟩ = some (.int .u32 1) => ?_) ?_
                  rotate_left
                  · refine h2.cell ?_ ?_
                    · exact cell2 hsz rfl
                    · intro e
                      simp only [Value.ownBlock, Option.some.injEq] at e
                      omega
                  clear h2)
               | (refine (fun hc : w'.cell? ⟨sz, 0, none⟩ = some (.int .u32 1) => ?_) ?_
                  rotate_left
                  · refine h2.cell ?_ ?_
                    · exact cell2' hsz rfl
                    · intro e
                      simp only [Value.ownBlock, Option.some.injEq] at e
                      omega
                  clear h2)
               | (refine (fun hc : w'.cell? ⟨sz + 1 + 1, 0, none⟩ = some (.int .u32 1) => ?_) ?_
                  rotate_left
                  · refine h2.cell ?_ ?_
                    · exact cell3 hsz rfl
                    · intro e
                      simp only [Value.ownBlock, Option.some.injEq] at e
                      omega
                  clear h2)
               | (refine (fun hc : w'.cell? ⟨sz + 1, 0, none⟩ = some (.int .u32 1) => ?_) ?_
                  rotate_left
                  · refine h2.cell ?_ ?_
                    · exact cell3' hsz rfl
                    · intro e
                      simp only [Value.ownBlock, Option.some.injEq] at e
                      omega
                  clear h2)
               | clear h2)
          | (refine step_appB hsz ?_ rfl (.tmp 36) (.tmp 42) rfl v' (dig y) rfl ?_ _ _ _ [1] rfl ?_ ?_ ?_
             · first | exact b1 | exact bel1 hsz b1 _ | exact bel2 hsz b1 _ _
             · first | exact h1 | exact h1.alloc _ | exact (h1.alloc _).alloc _
             · refine sl_one _ _ 1 ?_ (by omega)
               first | exact hc | simp
             · rw [length_dig]
               omega
             intro v'' w'' h3 b3 h4))
        all_goals
          go_wp2_with fail
          go_meet
          exact ⟨1, by omega, by omega, h3, b3⟩
      · replace hk : a2.tmod 4 = 1 := hk
        go_region_law (first
          | (first
               | refine step_appB hsz ?_ rfl (.tmp 34) (.tmp 35) rfl (.slice (some ⟨sz, 0, none⟩) 0 0) [] rfl ?_ B m d (dig y) rfl ?_ ?_ ?_
               | refine step_appB hsz ?_ rfl (.tmp 34) (.tmp 35) rfl (.slice (some ⟨sz + 1, 0, none⟩) 0 0) [] rfl ?_ B m d (dig y) rfl ?_ ?_ ?_
               | refine step_appB hsz ?_ rfl (.tmp 34) (.tmp 35) rfl (.slice (some ⟨sz + 1 + 1, 0, none⟩) 0 0) [] rfl ?_ B m d (dig y) rfl ?_ ?_ ?_
             · first | exact below1 hsz _ | exact below2 hsz _ _ | exact below3 hsz _ _ _
             · first | exact nil1 hsz | exact nil2 hsz _ | exact nil2' hsz _ | exact nil3 hsz _ _ | exact nil3' hsz _ _ | exact nil3'' hsz _ _
             · refine HS.out.mono ?_
               rw [hsz]
               first | exact below1 hsz _ | exact below2 hsz _ _ | exact below3 hsz _ _ _
             · simp; omega
             intro v' w' h1 b1 h2
             first
               | (refine (fun hc : w'.cell? ⟨sz + 1, 1, none⟩ = some (.int .u32 2147483647) => ?_) ?_
                  rotate_left
                  · refine h2.cell ?_ ?_
                    · exact cell2 hsz rfl
                    · intro e
                      simp only [Value.ownBlock, Option.some.injEq] at e
                      omega
                  clear h2)
               | (refine (fun hc : w'.cell? ⟨sz, 1, none⟩ = some (.int .u32 2147483647) => ?_) ?_
                  rotate_left
                  · refine h2.cell ?_ ?_
                    · exact cell2' hsz rfl
                    · intro e
                      simp only [Value.ownBlock, Option.some.injEq] at e
                      omega
                  clear h2)
               | (refine (fun hc : w'.cell? ⟨sz + 1 + 1, 0, none⟩ = some (.int .u32 2147483647) => ?_) ?_
                  rotate_left
                  · refine h2.cell ?_ ?_
                    · exact cell3 hsz rfl
                    · intro e
                      simp only [Value.ownBlock, Option.some.injEq] at e
                      omega
                  clear h2)
               | (refine (fun hc : w'.cell? ⟨sz + 1, 0, none⟩ = some (.int .u32 2147483647) => ?_) ?_
                  rotate_left
                  · refine h2.cell ?_ ?_
                    · exact cell3' hsz rfl
                    · intro e
                      simp only [Value.ownBlock, Option.some.injEq] at e
                      omega
                  clear h2)
               | clear h2)
          | (refine step_appB hsz ?_ rfl (.tmp 36) (.tmp 42) rfl v' (dig y) rfl ?_ _ _ _ [2147483647] rfl ?_ ?_ ?_
             · first | exact b1 | exact bel1 hsz b1 _ | exact bel2 hsz b1 _ _
             · first | exact h1 | exact h1.alloc _ | exact (h1.alloc _).alloc _
             · refine sl_one _ _ 2147483647 ?_ (by omega)
               first | exact hc | simp
             · rw [length_dig]
               omega
             intro v'' w'' h3 b3 h4))
        all_goals
          go_wp2_with fail
          go_meet
          exact ⟨2147483647, by omega, by omega, h3, b3⟩
      · replace hk : a2.tmod 4 = 2 := hk
        go_region_law (first
          | (first
               | refine step_appB hsz ?_ rfl (.tmp 34) (.tmp 35) rfl (.slice (some ⟨sz, 0, none⟩) 0 0) [] rfl ?_ B m d (dig y) rfl ?_ ?_ ?_
               | refine step_appB hsz ?_ rfl (.tmp 34) (.tmp 35) rfl (.slice (some ⟨sz + 1, 0, none⟩) 0 0) [] rfl ?_ B m d (dig y) rfl ?_ ?_ ?_
               | refine step_appB hsz ?_ rfl (.tmp 34) (.tmp 35) rfl (.slice (some ⟨sz + 1 + 1, 0, none⟩) 0 0) [] rfl ?_ B m d (dig y) rfl ?_ ?_ ?_
             · first | exact below1 hsz _ | exact below2 hsz _ _ | exact below3 hsz _ _ _
             · first | exact nil1 hsz | exact nil2 hsz _ | exact nil2' hsz _ | exact nil3 hsz _ _ | exact nil3' hsz _ _ | exact nil3'' hsz _ _
             · refine HS.out.mono ?_
               rw [hsz]
               first | exact below1 hsz _ | exact below2 hsz _ _ | exact below3 hsz _ _ _
             · simp; omega
             intro v' w' h1 b1 h2
             first
               | (refine (fun hc : w'.cell? ⟨sz + 1, 2, none⟩ = some (.int .u32 2147483648) => ?_) ?_
                  rotate_left
                  · refine h2.cell ?_ ?_
                    · exact cell2 hsz rfl
                    · intro e
                      simp only [Value.ownBlock, Option.some.injEq] at e
                      omega
                  clear h2)
               | (refine (fun hc : w'.cell? ⟨sz, 2, none⟩ = some (.int .u32 2147483648) => ?_) ?_
                  rotate_left
                  · refine h2.cell ?_ ?_
                    · exact cell2' hsz rfl
                    · intro e
                      simp only [Value.ownBlock, Option.some.injEq] at e
                      omega
                  clear h2)
               | (refine (fun hc : w'.cell? ⟨sz + 1 + 1, 0, none⟩ = some (.int .u32 2147483648) => ?_) ?_
                  rotate_left
                  · refine h2.cell ?_ ?_
                    · exact cell3 hsz rfl
                    · intro e
                      simp only [Value.ownBlock, Option.some.injEq] at e
                      omega
                  clear h2)
               | (refine (fun hc : w'.cell? ⟨sz + 1, 0, none⟩ = some (.int .u32 2147483648) => ?_) ?_
                  rotate_left
                  · refine h2.cell ?_ ?_
                    · exact cell3' hsz rfl
                    · intro e
                      simp only [Value.ownBlock, Option.some.injEq] at e
                      omega
                  clear h2)
               | clear h2)
          | (refine step_appB hsz ?_ rfl (.tmp 36) (.tmp 42) rfl v' (dig y) rfl ?_ _ _ _ [2147483648] rfl ?_ ?_ ?_
             · first | exact b1 | exact bel1 hsz b1 _ | exact bel2 hsz b1 _ _
             · first | exact h1 | exact h1.alloc _ | exact (h1.alloc _).alloc _
             · refine sl_one _ _ 2147483648 ?_ (by omega)
               first | exact hc | simp
             · rw [length_dig]
               omega
             intro v'' w'' h3 b3 h4))
        all_goals
          go_wp2_with fail
          go_meet
          exact ⟨2147483648, by omega, by omega, h3, b3⟩
      · replace hk : a2.tmod 4 = 3 := hk
        go_region_law (first
          | (first
               | refine step_appB hsz ?_ rfl (.tmp 34) (.tmp 35) rfl (.slice (some ⟨sz, 0, none⟩) 0 0) [] rfl ?_ B m d (dig y) rfl ?_ ?_ ?_
               | refine step_appB hsz ?_ rfl (.tmp 34) (.tmp 35) rfl (.slice (some ⟨sz + 1, 0, none⟩) 0 0) [] rfl ?_ B m d (dig y) rfl ?_ ?_ ?_
               | refine step_appB hsz ?_ rfl (.tmp 34) (.tmp 35) rfl (.slice (some ⟨sz + 1 + 1, 0, none⟩) 0 0) [] rfl ?_ B m d (dig y) rfl ?_ ?_ ?_
             · first | exact below1 hsz _ | exact below2 hsz _ _ | exact below3 hsz _ _ _
             · first | exact nil1 hsz | exact nil2 hsz _ | exact nil2' hsz _ | exact nil3 hsz _ _ | exact nil3' hsz _ _ | exact nil3'' hsz _ _
             · refine HS.out.mono ?_
               rw [hsz]
               first | exact below1 hsz _ | exact below2 hsz _ _ | exact below3 hsz _ _ _
             · simp; omega
             intro v' w' h1 b1 h2
             first
               | (refine (fun hc : w'.cell? ⟨sz + 1, 3, none⟩ = some (.int .u32 4294967295) => ?_) ?_
                  rotate_left
                  · refine h2.cell ?_ ?_
                    · exact cell2 hsz rfl
                    · intro e
                      simp only [Value.ownBlock, Option.some.injEq] at e
                      omega
                  clear h2)
               | (refine (fun hc : w'.cell? ⟨sz, 3, none⟩ = some (.int .u32 4294967295) => ?_) ?_
                  rotate_left
                  · refine h2.cell ?_ ?_
                    · exact cell2' hsz rfl
                    · intro e
                      simp only [Value.ownBlock, Option.some.injEq] at e
                      omega
                  clear h2)
               | (refine (fun hc : w'.cell? ⟨sz + 1 + 1, 0, none⟩ = some (.int .u32 4294967295) => ?_) ?_
                  rotate_left
                  · refine h2.cell ?_ ?_
                    · exact cell3 hsz rfl
                    · intro e
                      simp only [Value.ownBlock, Option.some.injEq] at e
                      omega
                  clear h2)
               | (refine (fun hc : w'.cell? ⟨sz + 1, 0, none⟩ = some (.int .u32 4294967295) => ?_) ?_
                  rotate_left
                  · refine h2.cell ?_ ?_
                    · exact cell3' hsz rfl
                    · intro e
                      simp only [Value.ownBlock, Option.some.injEq] at e
                      omega
                  clear h2)
               | clear h2)
          | (refine step_appB hsz ?_ rfl (.tmp 36) (.tmp 42) rfl v' (dig y) rfl ?_ _ _ _ [4294967295] rfl ?_ ?_ ?_
             · first | exact b1 | exact bel1 hsz b1 _ | exact bel2 hsz b1 _ _
             · first | exact h1 | exact h1.alloc _ | exact (h1.alloc _).alloc _
             · refine sl_one _ _ 4294967295 ?_ (by omega)
               first | exact hc | simp
             · rw [length_dig]
               omega
             intro v'' w'' h3 b3 h4))
        all_goals
          go_wp2_with fail
          go_meet
          exact ⟨4294967295, by omega, by omega, h3, b3⟩
    case rest =>
      obtain ⟨D, hD, hD2, own, b4⟩ := hcut
      subst hsz
      obtain ⟨Y, hY⟩ : ∃ Y, Y = val (dig y ++ [D]) := ⟨_, rfl⟩
      have hdY : dig Y = dig y ++ [D] := by rw [hY]; exact dig_snoc own.small hD
      have hlY : len Y ≤ 31 := by
        have h1 : len Y = len y + 1 := by unfold len; rw [hdY, List.length_append]; rfl
        omega
      have hY0 : 0 < Y := by
        rcases Nat.eq_zero_or_pos Y with h | h
        · rw [h, dig_zero] at hdY
          simp at hdY
        · exact h
      have iY := isN_of_own own hdY.symm
      replace L := (L.step b4).cons iY
      have hlm := len_mul x Y
      clear own b4 iY hdY hY HS hk hk4 hb2 hD hD2
      go_wp2_with fail
      refine (rmul_any x Y _ _ _ (L.get (by simp)) (L.get (by simp)) (by omega) (by omega)).mono ?_
      rintro e w5 ⟨v5, rfl, o⟩
      replace L := L.add o
      clear o
      cases a3
      · go_wp2_with fail
        refine (rof_any 1 w5 (by omega)).mono ?_
        rintro e w6 ⟨v6, rfl, o⟩
        replace L := L.add o
        clear o
        go_wp2_with fail
        refine (rless_any Y 1 _ v6 w6 (L.get (by simp)) (L.get (by simp)) (by omega) (by omega)).mono ?_
        rintro e w7 ⟨v7, rfl, o⟩
        replace L := L.add o
        clear o
        have hls := len_sub Y 1
        have hla := len_add (x * Y) (Y - 1)
        go_wp2_with fail
        refine (radd_any (x * Y) (Y - 1) v5 v7 w7 (L.get (by simp)) (L.get (by simp)) (by omega) (by omega)).mono ?_
        rintro e w8 ⟨v8, rfl, o⟩
        replace L := L.add o
        clear o
        go_wp2_with fail
        refine (divided_any (x * Y + (Y - 1)) Y v8 _ w8 (L.get (by simp)) (L.get (by simp)) (by omega) (by omega)).mono ?_
        rintro e w9 ⟨rfl, b⟩
        replace L := L.step b
        clear b
        go_wp2_with fail
        go_ret
        exact ⟨rfl, L.below⟩
      · go_wp2_with fail
        refine (rof_any 1 w5 (by omega)).mono ?_
        rintro e w6 ⟨v6, rfl, o⟩
        replace L := L.add o
        clear o
        have HSB := rsub_any (x * Y) 1 v5 v6 w6 (L.get (by simp)) (L.get (by simp)) (by omega)
        obtain ⟨P, hP⟩ : ∃ P, x * Y = P := ⟨_, rfl⟩
        rw [hP] at HSB L hlm
        clear hP
        rcases Nat.eq_zero_or_pos P with rfl | hp
        · have HS2 : Calls Try.prog 12 #[v5, v6] w6 (RetNB w6 0 false) := HSB
          have HS3 := Lib.hid HS2
          clear HSB HS2
          go_wp2_with fail
          refine HS3.out.mono ?_
          rintro e w7 ⟨v7, rfl, o⟩
          replace L := L.add o
          clear o
          go_wp2_with fail
          refine (divided_any 0 Y v5 _ w7 (L.get (by simp)) (L.get (by simp)) (by rw [len_zero]; omega) (by omega)).mono ?_
          rintro e w9 ⟨rfl, b⟩
          replace L := L.step b
          clear b
          go_wp2_with fail
          go_ret
          exact ⟨rfl, L.below⟩
        · have HS2 : Calls Try.prog 12 #[v5, v6] w6 (RetNB w6 (P - 1) true) := by
            unfold RetSub at HSB
            rw [if_pos (show 1 ≤ P from hp), decide_eq_true (show 1 ≤ P from hp)] at HSB
            exact HSB
          have HS3 := Lib.hid HS2
          have hls := len_sub P 1
          clear HSB HS2
          go_wp2_with fail
          refine HS3.out.mono ?_
          rintro e w7 ⟨v7, rfl, o⟩
          replace L := L.add o
          clear o
          go_wp2_with fail
          refine (divided_any (P - 1) Y v7 _ w7 (L.get (by simp)) (L.get (by simp)) (by omega) (by omega)).mono ?_
          rintro e w9 ⟨rfl, b⟩
          replace L := L.step b
          clear b
          go_wp2_with fail
          go_ret
          exact ⟨rfl, L.below⟩
  · cases ok1 <;> cases ok2 <;> first | (exact absurd rfl hok) | (go_wp2_with fail; go_ret; exact ⟨rfl, L.below⟩)

end Go.Proofs.Ytckomgehfpiijaa
