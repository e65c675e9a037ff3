/- The reference's Add, Neg, Sub, Times, Wide, Of, Tiny of spans. -/
import Derived.Test.YtfnklkdbieikeaaGreatDoorCoA
import Derived.Test.YtfnklkdbieikeaaGreatDoorCoM
import Derived.Test.YtfnklkdbieikeaaGreatDoorBaseJ
import Derived.Deep.RegionHeld3
import Derived.Deep.DrawnRows
namespace Go.Proofs.YtfnklkdbieikeaaGreatDoor
open Go.RowKit
set_option linter.unusedVariables false
set_option linter.unusedSimpArgs false
set_option maxRecDepth 100000
attribute [local go_sem ↓] Go.wp_at_zero Go.wp_at_succ

theorem isZ_s {w : World} {s : Value} {z : Int} (h : IsN w s z.natAbs) : IsZ w (.agg #[.bool (ng z), s]) z := ⟨s, rfl, h⟩

set_option maxHeartbeats 8000000 in
theorem s13add_any (a b a2 b2 : Int) (vx vy : Value) (w : World) (hx : IsS w vx a b) (hy : IsS w vy a2 b2) (la : zl a ≤ 10000) (lb : zl b ≤ 10000) (la2 : zl a2 ≤ 10000) (lb2 : zl b2 ≤ 10000) :
    Calls Tryz.prog 73 #[vx, vy] w (RetSp w (a + a2) (b + b2)) := by
  obtain ⟨A, c, B, d, rfl, hn1, hn2⟩ := hx.form
  obtain ⟨A2, c2, B2, d2, rfl, hn3, hn4⟩ := hy.form
  have L0 := ((((Lq.mk0 w).n hn4).n hn3).n hn2).n hn1
  have h1 := fun v u W h k => rzadd_any a a2 v u W h k (by omega) (by omega)
  have h2 := fun v u W h k => rzadd_any b b2 v u W h k (by omega) (by omega)
  obtain ⟨x, hx⟩ : ∃ z, a + a2 = z := ⟨_, rfl⟩
  obtain ⟨y, hy⟩ : ∃ z, b + b2 = z := ⟨_, rfl⟩
  rw [hx] at h1 ⊢
  rw [hy] at h2 ⊢
  have H1 := Lib.hid h1
  have H2 := Lib.hid h2
  clear h1 h2 hx hy hn1 hn2 hn3 hn4 la lb la2 lb2
  go_enter Tryz.func73, Tryz.ntmps73
  go_wp2_with fail
  have L := (((L0.varS (w.heap.size) (by simp) (ng a) A (zl a) c (ng b) B (zl b) d).varS (w.heap.size + 1) (by simp) (ng a2) A2 (zl a2) c2 (ng b2) B2 (zl b2) d2).varS (w.heap.size + 2) (by simp) false none 0 0 false none 0 0)
  replace L := L.drew
  have c00 := L.b0.c40
  have f00 := L.b0.fr 0
  have c01 := L.b0.c41
  have f01 := L.b0.fr 1
  have c02 := L.b0.c42
  have f02 := L.b0.fr 2
  have c03 := L.b0.c43
  have f03 := L.b0.fr 3
  have c10 := L.tl.b0.c40
  have c11 := L.tl.b0.c41
  have c12 := L.tl.b0.c42
  have c13 := L.tl.b0.c43
  have c20 := L.tl.tl.b0.c40
  have c21 := L.tl.tl.b0.c41
  have c22 := L.tl.tl.b0.c42
  have c23 := L.tl.tl.b0.c43
  go_region_held3 (fun w' => w'.cell? ⟨w.heap.size, 0, none⟩ = some (.bool (ng a)) ∧ w'.cell? ⟨w.heap.size, 1, none⟩ = some (.slice A (zl a) c) ∧ w'.cell? ⟨w.heap.size, 2, none⟩ = some (.bool (ng b)) ∧ w'.cell? ⟨w.heap.size, 3, none⟩ = some (.slice B (zl b) d) ∧ w'.cell? ⟨(w.heap.size + 1), 0, none⟩ = some (.bool (ng a2)) ∧ w'.cell? ⟨(w.heap.size + 1), 1, none⟩ = some (.slice A2 (zl a2) c2) ∧ w'.cell? ⟨(w.heap.size + 1), 2, none⟩ = some (.bool (ng b2)) ∧ w'.cell? ⟨(w.heap.size + 1), 3, none⟩ = some (.slice B2 (zl b2) d2)) (first | (with_reducible exact ⟨L.tl.tl.b0.c40, L.tl.tl.b0.c41, L.tl.tl.b0.c42, L.tl.tl.b0.c43, L.tl.b0.c40, L.tl.b0.c41, L.tl.b0.c42, L.tl.b0.c43⟩) | (have LP := L.putS (by omega) (by first | (simp; done) | (simp; omega)) (ng x) A8 (zl x) c8 (ng y) A9 (zl y) c9; unfold put4 at LP; with_reducible exact ⟨LP.tl.tl.b0.c40, LP.tl.tl.b0.c41, LP.tl.tl.b0.c42, LP.tl.tl.b0.c43, LP.tl.b0.c40, LP.tl.b0.c41, LP.tl.b0.c42, LP.tl.b0.c43⟩) | exact ⟨L.tl.tl.b0.c40, L.tl.tl.b0.c41, L.tl.tl.b0.c42, L.tl.tl.b0.c43, L.tl.b0.c40, L.tl.b0.c41, L.tl.b0.c42, L.tl.b0.c43⟩) (first | (go_at_call 91; (with_reducible refine (H1.out _ _ _ ?_ ?_ ).mono ?_); (· (refine isZ_s (L.getN ?_); (repeat (first | (with_reducible exact List.mem_cons_self) | apply List.mem_cons_of_mem)))); (· (refine isZ_s (L.getN ?_); (repeat (first | (with_reducible exact List.mem_cons_self) | apply List.mem_cons_of_mem)))); rintro e wh ⟨vh, rfl, iz, be⟩; obtain ⟨A8, c8, rfl, in9⟩ := iz.form; replace L := (L.step be).n in9; clear be iz in9; (try (have x00 := L.b0.c40; have y00 := L.b0.fr 0; have x01 := L.b0.c41; have y01 := L.b0.fr 1; have x02 := L.b0.c42; have y02 := L.b0.fr 2; have x03 := L.b0.c43; have y03 := L.b0.fr 3))) | (go_at_call 91; (with_reducible refine (H2.out _ _ _ ?_ ?_ ).mono ?_); (· (refine isZ_s (L.getN ?_); (repeat (first | (with_reducible exact List.mem_cons_self) | apply List.mem_cons_of_mem)))); (· (refine isZ_s (L.getN ?_); (repeat (first | (with_reducible exact List.mem_cons_self) | apply List.mem_cons_of_mem)))); rintro e wh ⟨vh, rfl, iz, be⟩; obtain ⟨A9, c9, rfl, in9⟩ := iz.form; replace L := (L.step be).n in9; clear be iz in9; (try (have x00 := L.b0.c40; have y00 := L.b0.fr 0; have x01 := L.b0.c41; have y01 := L.b0.fr 1; have x02 := L.b0.c42; have y02 := L.b0.fr 2; have x03 := L.b0.c43; have y03 := L.b0.fr 3))))
  clear c00 f00 c01 f01 c02 f02 c03 f03 c10 c11 c12 c13 c20 c21 c22 c23
  go_wp2_with fail
  have LP := L.putS (by omega) (by first | (simp; done) | (simp; omega)) (ng x) A8 (zl x) c8 (ng y) A9 (zl y) c9
  have k0 := LP.b0.c40
  have k1 := LP.b0.c41
  have k2 := LP.b0.c42
  have k3 := LP.b0.c43
  unfold put4 at k0 k1 k2 k3
  exact bodyPost_ret (v := .agg #[.bool (ng x), .slice A8 (zl x) c8, .bool (ng y), .slice A9 (zl y) c9]) (by simp [results, Tryz.results73, go_sem, k0, k1, k2, k3]) rfl ⟨_, rfl, isS_n (LP.getN (by simp)) (LP.getN (by simp)), LP.below⟩
set_option maxHeartbeats 8000000 in
theorem s13neg_any (a b : Int) (vx : Value) (w : World) (hx : IsS w vx a b) (la : zl a ≤ 10000) (lb : zl b ≤ 10000) :
    Calls Tryz.prog 124 #[vx] w (RetSp w (-b) (-a)) := by
  obtain ⟨A, c, B, d, rfl, hn1, hn2⟩ := hx.form
  have L0 := ((Lq.mk0 w).n hn2).n hn1
  have h1 := fun v W h => rzneg_any b v W h (by omega)
  have h2 := fun v W h => rzneg_any a v W h (by omega)
  obtain ⟨x, hx⟩ : ∃ z, -b = z := ⟨_, rfl⟩
  obtain ⟨y, hy⟩ : ∃ z, -a = z := ⟨_, rfl⟩
  rw [hx] at h1 ⊢
  rw [hy] at h2 ⊢
  have H1 := Lib.hid h1
  have H2 := Lib.hid h2
  clear h1 h2 hx hy hn1 hn2 la lb
  go_enter Tryz.func124, Tryz.ntmps124
  go_wp2_with fail
  have L := ((L0.varS (w.heap.size) (by simp) (ng a) A (zl a) c (ng b) B (zl b) d).varS (w.heap.size + 1) (by simp) false none 0 0 false none 0 0)
  replace L := L.drew
  have c00 := L.b0.c40
  have f00 := L.b0.fr 0
  have c01 := L.b0.c41
  have f01 := L.b0.fr 1
  have c02 := L.b0.c42
  have f02 := L.b0.fr 2
  have c03 := L.b0.c43
  have f03 := L.b0.fr 3
  have c10 := L.tl.b0.c40
  have c11 := L.tl.b0.c41
  have c12 := L.tl.b0.c42
  have c13 := L.tl.b0.c43
  go_region_held3 (fun w' => w'.cell? ⟨w.heap.size, 0, none⟩ = some (.bool (ng a)) ∧ w'.cell? ⟨w.heap.size, 1, none⟩ = some (.slice A (zl a) c) ∧ w'.cell? ⟨w.heap.size, 2, none⟩ = some (.bool (ng b)) ∧ w'.cell? ⟨w.heap.size, 3, none⟩ = some (.slice B (zl b) d)) (first | (with_reducible exact ⟨L.tl.b0.c40, L.tl.b0.c41, L.tl.b0.c42, L.tl.b0.c43⟩) | (have LP := L.putS (by omega) (by first | (simp; done) | (simp; omega)) (ng x) A8 (zl x) c8 (ng y) A9 (zl y) c9; unfold put4 at LP; with_reducible exact ⟨LP.tl.b0.c40, LP.tl.b0.c41, LP.tl.b0.c42, LP.tl.b0.c43⟩) | exact ⟨L.tl.b0.c40, L.tl.b0.c41, L.tl.b0.c42, L.tl.b0.c43⟩) (first | (go_at_call 66; (with_reducible refine (H1.out _ _ ?_ ).mono ?_); (· (refine isZ_s (L.getN ?_); (repeat (first | (with_reducible exact List.mem_cons_self) | apply List.mem_cons_of_mem)))); rintro e wh ⟨vh, rfl, iz, be⟩; obtain ⟨A8, c8, rfl, in9⟩ := iz.form; replace L := (L.step be).n in9; clear be iz in9; (try (have x00 := L.b0.c40; have y00 := L.b0.fr 0; have x01 := L.b0.c41; have y01 := L.b0.fr 1; have x02 := L.b0.c42; have y02 := L.b0.fr 2; have x03 := L.b0.c43; have y03 := L.b0.fr 3))) | (go_at_call 66; (with_reducible refine (H2.out _ _ ?_ ).mono ?_); (· (refine isZ_s (L.getN ?_); (repeat (first | (with_reducible exact List.mem_cons_self) | apply List.mem_cons_of_mem)))); rintro e wh ⟨vh, rfl, iz, be⟩; obtain ⟨A9, c9, rfl, in9⟩ := iz.form; replace L := (L.step be).n in9; clear be iz in9; (try (have x00 := L.b0.c40; have y00 := L.b0.fr 0; have x01 := L.b0.c41; have y01 := L.b0.fr 1; have x02 := L.b0.c42; have y02 := L.b0.fr 2; have x03 := L.b0.c43; have y03 := L.b0.fr 3))))
  clear c00 f00 c01 f01 c02 f02 c03 f03 c10 c11 c12 c13
  go_wp2_with fail
  have LP := L.putS (by omega) (by first | (simp; done) | (simp; omega)) (ng x) A8 (zl x) c8 (ng y) A9 (zl y) c9
  have k0 := LP.b0.c40
  have k1 := LP.b0.c41
  have k2 := LP.b0.c42
  have k3 := LP.b0.c43
  unfold put4 at k0 k1 k2 k3
  exact bodyPost_ret (v := .agg #[.bool (ng x), .slice A8 (zl x) c8, .bool (ng y), .slice A9 (zl y) c9]) (by simp [results, Tryz.results124, go_sem, k0, k1, k2, k3]) rfl ⟨_, rfl, isS_n (LP.getN (by simp)) (LP.getN (by simp)), LP.below⟩
set_option maxHeartbeats 8000000 in
theorem s13sub_any (a b a2 b2 : Int) (vx vy : Value) (w : World) (hx : IsS w vx a b) (hy : IsS w vy a2 b2) (la : zl a ≤ 10000) (lb : zl b ≤ 10000) (la2 : zl a2 ≤ 10000) (lb2 : zl b2 ≤ 10000) :
    Calls Tryz.prog 67 #[vx, vy] w (RetSp w (a + -b2) (b + -a2)) := by
  obtain ⟨A, c, B, d, rfl, hn1, hn2⟩ := hx.form
  obtain ⟨A2, c2, B2, d2, rfl, hn3, hn4⟩ := hy.form
  have L0 := ((((Lq.mk0 w).n hn4).n hn3).n hn2).n hn1
  have z1 := zl_neg a2
  have z2 := zl_neg b2
  have h1 := fun v W h => s13neg_any a2 b2 v W h la2 lb2
  have h2 := fun v u W h k => s13add_any a b (-b2) (-a2) v u W h k la lb (by omega) (by omega)
  obtain ⟨p, hp⟩ : ∃ z, -b2 = z := ⟨_, rfl⟩
  obtain ⟨q, hq⟩ : ∃ z, -a2 = z := ⟨_, rfl⟩
  rw [hp, hq] at h1 h2 ⊢
  obtain ⟨x, hx⟩ : ∃ z, a + p = z := ⟨_, rfl⟩
  obtain ⟨y, hy⟩ : ∃ z, b + q = z := ⟨_, rfl⟩
  rw [hx, hy] at h2 ⊢
  have H1 := Lib.hid h1
  have H2 := Lib.hid h2
  clear h1 h2 hx hy hn1 hn2 hn3 hn4 la lb la2 lb2 hp hq z1 z2
  go_enter Tryz.func67, Tryz.ntmps67
  go_wp2_with fail
  have L := (((L0.varS (w.heap.size) (by simp) (ng a) A (zl a) c (ng b) B (zl b) d).varS (w.heap.size + 1) (by simp) (ng a2) A2 (zl a2) c2 (ng b2) B2 (zl b2) d2).varS (w.heap.size + 2) (by simp) false none 0 0 false none 0 0)
  replace L := L.drew
  have c00 := L.b0.c40
  have f00 := L.b0.fr 0
  have c01 := L.b0.c41
  have f01 := L.b0.fr 1
  have c02 := L.b0.c42
  have f02 := L.b0.fr 2
  have c03 := L.b0.c43
  have f03 := L.b0.fr 3
  have c10 := L.tl.b0.c40
  have c11 := L.tl.b0.c41
  have c12 := L.tl.b0.c42
  have c13 := L.tl.b0.c43
  have c20 := L.tl.tl.b0.c40
  have c21 := L.tl.tl.b0.c41
  have c22 := L.tl.tl.b0.c42
  have c23 := L.tl.tl.b0.c43
  go_region_held3 (fun w' => w'.cell? ⟨w.heap.size, 0, none⟩ = some (.bool (ng a)) ∧ w'.cell? ⟨w.heap.size, 1, none⟩ = some (.slice A (zl a) c) ∧ w'.cell? ⟨w.heap.size, 2, none⟩ = some (.bool (ng b)) ∧ w'.cell? ⟨w.heap.size, 3, none⟩ = some (.slice B (zl b) d) ∧ w'.cell? ⟨(w.heap.size + 1), 0, none⟩ = some (.bool (ng a2)) ∧ w'.cell? ⟨(w.heap.size + 1), 1, none⟩ = some (.slice A2 (zl a2) c2) ∧ w'.cell? ⟨(w.heap.size + 1), 2, none⟩ = some (.bool (ng b2)) ∧ w'.cell? ⟨(w.heap.size + 1), 3, none⟩ = some (.slice B2 (zl b2) d2)) (first | (with_reducible exact ⟨L.tl.tl.b0.c40, L.tl.tl.b0.c41, L.tl.tl.b0.c42, L.tl.tl.b0.c43, L.tl.b0.c40, L.tl.b0.c41, L.tl.b0.c42, L.tl.b0.c43⟩) | (have LP := L.putS (by omega) (by first | (simp; done) | (simp; omega)) (ng x) A8 (zl x) c8 (ng y) B8 (zl y) d8; unfold put4 at LP; with_reducible exact ⟨LP.tl.tl.b0.c40, LP.tl.tl.b0.c41, LP.tl.tl.b0.c42, LP.tl.tl.b0.c43, LP.tl.b0.c40, LP.tl.b0.c41, LP.tl.b0.c42, LP.tl.b0.c43⟩) | exact ⟨L.tl.tl.b0.c40, L.tl.tl.b0.c41, L.tl.tl.b0.c42, L.tl.tl.b0.c43, L.tl.b0.c40, L.tl.b0.c41, L.tl.b0.c42, L.tl.b0.c43⟩) (first | (go_at_call 124; (with_reducible refine (H1.out _ _ ?_ ).mono ?_); (· (refine isS_n (L.getN ?_) (L.getN ?_) <;> (repeat (first | (with_reducible exact List.mem_cons_self) | apply List.mem_cons_of_mem)))); rintro e wh ⟨vh, rfl, iq, be⟩; obtain ⟨A7, c7, B7, d7, rfl, ia, ib⟩ := iq.form; replace L := ((L.step be).n ib).n ia; clear be iq ia ib; (try (have x00 := L.b0.c40; have y00 := L.b0.fr 0; have x01 := L.b0.c41; have y01 := L.b0.fr 1; have x02 := L.b0.c42; have y02 := L.b0.fr 2; have x03 := L.b0.c43; have y03 := L.b0.fr 3))) | (go_at_call 73; (with_reducible refine (H2.out _ _ _ ?_ ?_ ).mono ?_); (· (refine isS_n (L.getN ?_) (L.getN ?_) <;> (repeat (first | (with_reducible exact List.mem_cons_self) | apply List.mem_cons_of_mem)))); (· (refine isS_n (L.getN ?_) (L.getN ?_) <;> (repeat (first | (with_reducible exact List.mem_cons_self) | apply List.mem_cons_of_mem)))); rintro e wh ⟨vh, rfl, iq, be⟩; obtain ⟨A8, c8, B8, d8, rfl, ia, ib⟩ := iq.form; replace L := ((L.step be).n ib).n ia; clear be iq ia ib; (try (have x00 := L.b0.c40; have y00 := L.b0.fr 0; have x01 := L.b0.c41; have y01 := L.b0.fr 1; have x02 := L.b0.c42; have y02 := L.b0.fr 2; have x03 := L.b0.c43; have y03 := L.b0.fr 3))))
  clear c00 f00 c01 f01 c02 f02 c03 f03 c10 c11 c12 c13 c20 c21 c22 c23
  go_wp2_with fail
  have LP := L.putS (by omega) (by first | (simp; done) | (simp; omega)) (ng x) A8 (zl x) c8 (ng y) B8 (zl y) d8
  have k0 := LP.b0.c40
  have k1 := LP.b0.c41
  have k2 := LP.b0.c42
  have k3 := LP.b0.c43
  unfold put4 at k0 k1 k2 k3
  exact bodyPost_ret (v := .agg #[.bool (ng x), .slice A8 (zl x) c8, .bool (ng y), .slice B8 (zl y) d8]) (by simp [results, Tryz.results67, go_sem, k0, k1, k2, k3]) rfl ⟨_, rfl, isS_n (LP.getN (by simp)) (LP.getN (by simp)), LP.below⟩

end Go.Proofs.YtfnklkdbieikeaaGreatDoor
