/- Append to a row of fractions: and the row's block is the old one or a new one. -/
import Derived.Test.YtoobcngbnjeddaaGreatDoorArAppZ
import Derived.Laws.AppendOwn
import Derived.Laws.OwnMore
namespace Go.Proofs.YtoobcngbnjeddaaGreatDoor
open Go.RowKit
set_option linter.unusedVariables false
set_option linter.unusedSimpArgs false
set_option maxRecDepth 100000
attribute [local go_sem ↓] Go.wp_at_zero Go.wp_at_succ

set_option maxHeartbeats 1000000 in
theorem run_app3_own (w : World) (B : Nat) (t ty e : TypeId) (i : TypeInfo) (z : Value) (bytes : Nat) (ht : Tryz.prog.underlying t = some (.slice e)) (hi : Tryz.prog.info? e = some i) (hz : i.zero = some z) (hsize : i.size = 3) (hby : i.bytes = bytes)
    (v : Value) (n : Nat) (xs : List Value) (hown : OwnC w B e v n xs) (a : Addr) (c : Nat) (news : List Value) (hl : news.length = 3) (hnews : ∀ j u, news[j]? = some u → w.cell? (a.add j) = some u) (h1 : ∀ u ∈ news, u.oneCell' = true) (hn : n ≤ 1000000) (hb : bytes ≤ 1000) {v' : Value} {w' : World}
    (hr : (Builtin.append_ #[t, t] ty #[v, .slice (some a) 1 c]).run Tryz.prog w = .ok v' w') : ∀ g, v'.ownBlock = some g → v.ownBlock = some g ∨ w.heap.size ≤ g := by
  have hbn : (n + 1) * bytes ≤ 1000001 * 1000 := Nat.mul_le_mul (by omega) hb
  rcases hown.1.2 with ⟨rfl, rfl⟩ | ⟨g, cap, cur, rfl, hbg, hg, hnc, hcm, hcs, htake⟩
  · have hr2 := run_append_nil (P := Tryz.prog) w t ty e i z ht hi hz a 1 c news (by rw [hsize]; omega) hnews (by omega) (by omega) (by rw [hby]; omega)
    rw [hr2] at hr
    simp only [Result.ok.injEq] at hr
    obtain ⟨rfl, rfl⟩ := hr
    intro g hg
    obtain rfl : w.heap.size = g := by simpa [Value.ownBlock] using hg
    exact Or.inr (Nat.le_refl _)
  · by_cases hroom : n + 1 ≤ cap
    · have hfit : n * i.size + news.length ≤ cur.size := by rw [hsize, hl, hcs]; omega
      have hr2 := run_append_room (P := Tryz.prog) w t ty e i ht hi g n cap cur hg a 1 c news (by rw [hsize]; omega) hnews h1 hroom hfit
      rw [hr2] at hr
      simp only [Result.ok.injEq] at hr
      obtain ⟨rfl, rfl⟩ := hr
      exact fun g' hg' => Or.inl hg'
    · have holds : ∀ j u, xs[j]? = some u → w.cell? ((⟨g, 0, none⟩ : Addr).add j) = some u := hown.1.cells (g := g) rfl
      have hr2 := run_append_grow (P := Tryz.prog) w t ty e i z ht hi hz ⟨g, 0, none⟩ n cap xs (by rw [hsize]; exact hown.1.1) holds a 1 c news (by rw [hsize]; omega) hnews (by omega) (by omega) (growslice_fits (by omega) (by rw [hby]; omega))
      rw [hr2] at hr
      simp only [Result.ok.injEq] at hr
      obtain ⟨rfl, rfl⟩ := hr
      intro g' hg'
      obtain rfl : w.heap.size = g' := by simpa [Value.ownBlock] using hg'
      exact Or.inr (Nat.le_refl _)
theorem Var.kept {w w' : World} {row : Option Nat} {g : Nat} {t : TypeId} {cs : Array Value} (h : Var w g t cs) (hg : w.grownBy w' row) (hn : row ≠ some g) : Var w' g t cs :=
  ⟨by rw [hg.block g h.lt (fun e => hn e.symm)]; exact h.1, h.2⟩
set_option maxHeartbeats 1000000 in
theorem wp_appRb (w : World) {ops : Array Oper} {rest : List Oper} {o : Oper} {a : Act} {Q : Exit → Act → World → Prop} (hgd : o.guard = none) (s x : Operand)
    (ho : o.op = .call { callee := .builtin .append, args := #[s, x], argTypes := #[77, 77] })
    (B : Nat) (v : Value) (l : List (Int × Nat)) (hs : a.eval s = v) (hO : OwnRa w B v l) (g : Nat) {A : Option Addr} {m : Int} {c : Nat} {B2 : Option Addr} {e k : Nat} (cp : Nat) (hx : a.eval x = .slice (some ⟨g, 0, none⟩) 1 cp) (hc : ∀ j u, [Value.bool (ng m), .slice A (zl m) c, .slice B2 (len e) k][j]? = some u → w.cell? ⟨g, j, none⟩ = some u) (hN : IsP w (.agg #[.bool (ng m), .slice A (zl m) c, .slice B2 (len e) k]) m e) (hk : l.length < 1000000) (hbase : B ≤ w.heap.size)
    (h : ∀ v' w', OwnRa w' B v' (l ++ [(m, e)]) → w.grownBy w' v.ownBlock → (∀ u x, IsN w u x → IsN w' u x) → (∀ g, v'.ownBlock = some g → v.ownBlock = some g ∨ w.heap.size ≤ g) → wpList Tryz.prog ops Q rest (a.put o.dst v') w') : wpList Tryz.prog ops Q (o :: rest) a w := by
  obtain ⟨i0, hi, hz0, hz1, hz2⟩ := info_parts info_ra11
  obtain ⟨xs, h1, h2⟩ := hO
  have hxl := h1.1.1
  have nw : ∀ j u, [Value.bool (ng m), .slice A (zl m) c, .slice B2 (len e) k][j]? = some u → w.cell? ((⟨g, 0, none⟩ : Addr).add j) = some u := by
    intro j u hj
    rw [show ((⟨g, 0, none⟩ : Addr).add j) = ⟨g, j, none⟩ from by by_cases h0 : j = 0 <;> simp [Addr.add, h0]]
    exact hc j u hj
  have oc : ∀ u ∈ [Value.bool (ng m), .slice A (zl m) c, .slice B2 (len e) k], u.oneCell' = true := by
    intro u hu
    simp only [List.mem_cons, List.not_mem_nil, or_false] at hu
    rcases hu with rfl | rfl | rfl <;> rfl
  have nd : ∀ u ∈ [Value.bool (ng m), .slice A (zl m) c, .slice B2 (len e) k], ∀ x : Int, u ≠ .int .u32 x := by
    intro u hu x
    simp only [List.mem_cons, List.not_mem_nil, or_false] at hu
    rcases hu with rfl | rfl | rfl <;> simp
  have zd : ∀ u ∈ (Value.agg #[.bool false, .slice none 0 0, .slice none 0 0]).cells, ∀ x : Int, u ≠ .int .u32 x := by
    intro u hu x
    simp only [Value.cells, List.mem_toArray, List.mem_cons, List.not_mem_nil, or_false] at hu
    rcases hu with rfl | rfl | rfl <;> simp
  refine wpList_plain hgd fun _ hK => ?_
  obtain ⟨v', w', hr, hr2, hg⟩ := run_app3 w B 77 o.type 45 i0 _ 56 Tryz.underlying77 hi hz0 hz1 hz2 rfl zd v l.length xs h1 ⟨g, 0, none⟩ cp _ rfl nw oc nd (by omega) (by omega) hbase
  have ho9 := run_app3_own w B 77 o.type 45 i0 _ 56 Tryz.underlying77 hi hz0 hz1 hz2 v l.length xs h1 ⟨g, 0, none⟩ cp _ rfl nw oc (by omega) (by omega) hr
  unfold Oper.wp execOp
  simp only [ho, resolve, invoke, builtin, Sem.run_bind, Sem.run_pure, Result.andThen_ok, List.map_toArray, List.map_cons, List.map_nil, hs, hx, hr]
  refine hK _ _ (h v' w' ⟨xs ++ [Value.bool (ng m), .slice A (zl m) c, .slice B2 (len e) k], by rw [List.length_append]; exact hr2, fun j p hp => ?_⟩ hg (fun u x hu => hu.kept hg h1.2) ho9)
  rcases Nat.lt_or_ge j l.length with hjk | hjk
  · rw [List.getElem?_append_left hjk] at hp
    obtain ⟨A, c, B, k, a1, a2, a3, a4⟩ := h2 j p hp
    exact ⟨A, c, B, k, by rw [List.getElem?_append_left (by omega)]; exact a1, by rw [List.getElem?_append_left (by omega)]; exact a2, by rw [List.getElem?_append_left (by omega)]; exact a3, a4.kept hg h1.2⟩
  · rw [List.getElem?_append_right hjk] at hp
    obtain rfl : j = l.length := by
      rcases Nat.eq_or_lt_of_le hjk with h | h
      · exact h.symm
      · rw [List.getElem?_eq_none (by simp; omega)] at hp; cases hp
    obtain rfl : (m, e) = p := by simpa using hp
    exact ⟨A, c, B2, k, by rw [List.getElem?_append_right (by omega), show 3 * l.length - xs.length = 0 from by omega]; rfl, by rw [List.getElem?_append_right (by omega), show 3 * l.length + 1 - xs.length = 1 from by omega]; rfl, by rw [List.getElem?_append_right (by omega), show 3 * l.length + 2 - xs.length = 2 from by omega]; rfl, hN.kept hg h1.2⟩


end Go.Proofs.YtoobcngbnjeddaaGreatDoor
