/- The reference's Over. -/
import Derived.Test.YtfnklkdbieikeaaGreatDoorRefCoD
import Derived.Deep.RegionHeld3
import Derived.Deep.DrawnRows
namespace Go.Proofs.YtfnklkdbieikeaaGreatDoor
open Go.RowKit
set_option linter.unusedVariables false
set_option linter.unusedSimpArgs false
set_option maxRecDepth 100000
attribute [local go_sem ↓] Go.wp_at_zero Go.wp_at_succ

theorem rowZ_2 {w : World} {g : Nat} {a b : Int} {c d : Nat} {A B : Option Addr} (hv : Var w g 27 #[.bool (ng a), .slice A (zl a) c, .bool (ng b), .slice B (zl b) d]) (h1 : IsN w (.slice A (zl a) c) a.natAbs) (h2 : IsN w (.slice B (zl b) d) b.natAbs) : RowZ w (.slice (some ⟨g, 0, none⟩) 2 2) [a, b] := by
  refine ⟨g, 2, rfl, hv.lt, fun j p hp => ?_⟩
  match j with
  | 0 =>
    obtain rfl : a = p := by simpa using hp
    exact ⟨A, c, hv.cell 0, hv.cell 1, isZ_s h1⟩
  | 1 =>
    obtain rfl : b = p := by simpa using hp
    exact ⟨B, d, hv.cell 2, hv.cell 3, isZ_s h2⟩
  | j + 2 => simp at hp
theorem lst_2 {a b : Int} (h : a ≤ b) : IsLstZ a [a, b] := ⟨by simp, fun p hp => by
  simp only [List.mem_cons, List.not_mem_nil, or_false] at hp
  rcases hp with rfl | rfl <;> omega⟩
theorem mst_2 {a b : Int} (h : a ≤ b) : IsMstZ b [a, b] := ⟨by simp, fun p hp => by
  simp only [List.mem_cons, List.not_mem_nil, or_false] at hp
  rcases hp with rfl | rfl <;> omega⟩

set_option maxHeartbeats 8000000 in
theorem s13over_any (a b n : Int) (vx : Value) (w : World) (hx : IsS w vx a b) (la : zl a ≤ 10000) (lb : zl b ≤ 10000) (hab : a ≤ b) (h1 : 1 ≤ n) (h2 : n ≤ 1000000) :
    Calls Tryz.prog 72 #[vx, .int .i64 n] w (RetSp w (a / n) (cdv b n)) := by
  obtain ⟨A, c, B, d, rfl, hn1, hn2⟩ := hx.form
  have L0 := ((Lq.mk0 w).n hn2).n hn1
  have h3 := len_le1 (x := n.natAbs) (by omega)
  have g0 := fun W => rzof_any n W (by omega) (by omega)
  have g1 := fun v u W (h : RowZ W v [a, b]) k => s13hull_any [a, b] a b n v u W h k (by simp) (by simp) (fun p hp => by
    simp only [List.mem_cons, List.not_mem_nil, or_false] at hp
    rcases hp with rfl | rfl <;> assumption) (lst_2 hab) (mst_2 hab) (show zl n ≤ 10000 from Nat.le_trans h3 (by omega)) (by omega)
  obtain ⟨x, hx⟩ : ∃ z, a / n = z := ⟨_, rfl⟩
  obtain ⟨y, hy⟩ : ∃ z, cdv b n = z := ⟨_, rfl⟩
  rw [hx, hy] at g1
  rw [hx, hy]
  have H0 := Lib.hid g0
  have H1 := Lib.hid g1
  clear g0 g1 hx hy h3 hn1 hn2 la lb hab
  go_enter Tryz.func72, Tryz.ntmps72
  go_wp2_with fail
  have L := ((L0.varS (w.heap.size) (by simp) (ng a) A (zl a) c (ng b) B (zl b) d).varS (w.heap.size + 1) (by simp) false none 0 0 false none 0 0)
  have LB := L
  replace L := L.drew
  have c00 := L.b0.c40
  have f00 := L.b0.fr 0
  have c01 := L.b0.c41
  have f01 := L.b0.fr 1
  have c02 := L.b0.c42
  have f02 := L.b0.fr 2
  have c03 := L.b0.c43
  have f03 := L.b0.fr 3
  have c10 := L.tl.b0.c40
  have c11 := L.tl.b0.c41
  have c12 := L.tl.b0.c42
  have c13 := L.tl.b0.c43
  go_region_held3 (fun w' => w'.cell? ⟨w.heap.size, 0, none⟩ = some (.bool (ng a)) ∧ w'.cell? ⟨w.heap.size, 1, none⟩ = some (.slice A (zl a) c) ∧ w'.cell? ⟨w.heap.size, 2, none⟩ = some (.bool (ng b)) ∧ w'.cell? ⟨w.heap.size, 3, none⟩ = some (.slice B (zl b) d)) (first | (with_reducible exact ⟨L.tl.b0.c40, L.tl.b0.c41, L.tl.b0.c42, L.tl.b0.c43⟩) | (with_reducible exact ⟨L.tl.tl.b0.c40, L.tl.tl.b0.c41, L.tl.tl.b0.c42, L.tl.tl.b0.c43⟩) | (have LN := (LB.var (w.heap.size + 1 + 1) (by simp) 27 #[.bool (ng a), .slice A (zl a) c, .bool (ng b), .slice B (zl b) d] (plain4 _ _ _ _ _ _ _ _)).drew; with_reducible exact ⟨LN.tl.tl.b0.c40, LN.tl.tl.b0.c41, LN.tl.tl.b0.c42, LN.tl.tl.b0.c43⟩) | (have LN := L.var _ rfl 27 #[.bool (ng a), .slice A (zl a) c, .bool (ng b), .slice B (zl b) d] (plain4 _ _ _ _ _ _ _ _); with_reducible exact ⟨LN.tl.tl.b0.c40, LN.tl.tl.b0.c41, LN.tl.tl.b0.c42, LN.tl.tl.b0.c43⟩) | (have LP := L.swap.putS (by omega) (by first | (simp; done) | (simp; omega)) (ng x) A8 (zl x) c8 (ng y) B8 (zl y) d8; unfold put4 at LP; with_reducible exact ⟨LP.tl.tl.b0.c40, LP.tl.tl.b0.c41, LP.tl.tl.b0.c42, LP.tl.tl.b0.c43⟩)) (first | (go_at_call 45; (with_reducible refine (H0.out _).mono ?_); rintro e wh ⟨vh, rfl, iz, be⟩; (first | (replace L := ((LB.var (w.heap.size + 1 + 1) (by simp) 27 #[.bool (ng a), .slice A (zl a) c, .bool (ng b), .slice B (zl b) d] (plain4 _ _ _ _ _ _ _ _)).drew).step be) | (replace L := (L.var _ rfl 27 #[.bool (ng a), .slice A (zl a) c, .bool (ng b), .slice B (zl b) d] (plain4 _ _ _ _ _ _ _ _)).step be) | (replace L := L.step be)); obtain ⟨A7, c7, rfl, in9⟩ := iz.form; replace L := L.n in9; clear be iz in9; (first | (have x00 := L.tl.b0.c40; have y00 := L.tl.b0.fr 0; have x01 := L.tl.b0.c41; have y01 := L.tl.b0.fr 1; have x02 := L.tl.b0.c42; have y02 := L.tl.b0.fr 2; have x03 := L.tl.b0.c43; have y03 := L.tl.b0.fr 3) | (have x00 := L.b0.c40; have y00 := L.b0.fr 0; have x01 := L.b0.c41; have y01 := L.b0.fr 1; have x02 := L.b0.c42; have y02 := L.b0.fr 2; have x03 := L.b0.c43; have y03 := L.b0.fr 3) | skip)) | (go_at_call 126; have hl9 := L.b0.lt; have LN := L.var _ rfl 27 #[.bool (ng a), .slice A (zl a) c, .bool (ng b), .slice B (zl b) d] (plain4 _ _ _ _ _ _ _ _); (with_reducible refine (H1.out _ _ _ ?_ ?_).mono ?_); (· (refine rowZ_2 LN.b0 (LN.getN ?_) (LN.getN ?_) <;> (repeat (first | (with_reducible exact List.mem_cons_self) | apply List.mem_cons_of_mem)))); (· (refine isZ_s (LN.getN ?_); (repeat (first | (with_reducible exact List.mem_cons_self) | apply List.mem_cons_of_mem)))); rintro e wh ⟨vh, rfl, iq, be⟩; obtain ⟨A8, c8, B8, d8, rfl, ia, ib⟩ := iq.form; replace L := ((LN.step be).n ib).n ia; clear be iq ia ib; (try (have x00 := L.tl.b0.c40; have y00 := L.tl.b0.fr 0; have x01 := L.tl.b0.c41; have y01 := L.tl.b0.fr 1; have x02 := L.tl.b0.c42; have y02 := L.tl.b0.fr 2; have x03 := L.tl.b0.c43; have y03 := L.tl.b0.fr 3))) | (go_at_call 126; (with_reducible refine (H1.out _ _ _ ?_ ?_).mono ?_); (· (refine rowZ_2 L.b0 (L.getN ?_) (L.getN ?_) <;> (repeat (first | (with_reducible exact List.mem_cons_self) | apply List.mem_cons_of_mem)))); (· (refine isZ_s (L.getN ?_); (repeat (first | (with_reducible exact List.mem_cons_self) | apply List.mem_cons_of_mem)))); rintro e wh ⟨vh, rfl, iq, be⟩; obtain ⟨A8, c8, B8, d8, rfl, ia, ib⟩ := iq.form; replace L := ((L.step be).n ib).n ia; clear be iq ia ib; (try (have x00 := L.tl.b0.c40; have y00 := L.tl.b0.fr 0; have x01 := L.tl.b0.c41; have y01 := L.tl.b0.fr 1; have x02 := L.tl.b0.c42; have y02 := L.tl.b0.fr 2; have x03 := L.tl.b0.c43; have y03 := L.tl.b0.fr 3))))
  clear c00 f00 c01 f01 c02 f02 c03 f03 c10 c11 c12 c13
  all_goals
    go_wp2_with fail
    replace L := L.swap
    have LP := L.putS (by omega) (by first | (simp; done) | (simp; omega)) (ng x) A8 (zl x) c8 (ng y) B8 (zl y) d8
    have k0 := LP.b0.c40
    have k1 := LP.b0.c41
    have k2 := LP.b0.c42
    have k3 := LP.b0.c43
    unfold put4 at k0 k1 k2 k3
    exact bodyPost_ret (v := .agg #[.bool (ng x), .slice A8 (zl x) c8, .bool (ng y), .slice B8 (zl y) d8]) (by simp [results, Tryz.results72, go_sem, k0, k1, k2, k3]) rfl ⟨_, rfl, isS_n (LP.getN (by simp)) (LP.getN (by simp)), LP.below⟩

end Go.Proofs.YtfnklkdbieikeaaGreatDoor
