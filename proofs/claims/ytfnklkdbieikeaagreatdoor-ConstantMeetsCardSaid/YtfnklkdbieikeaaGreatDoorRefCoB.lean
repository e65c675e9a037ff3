/- The reference's Of, Times, Wide, Tiny of spans. -/
import Derived.Test.YtfnklkdbieikeaaGreatDoorRefCoA
import Derived.Test.YtfnklkdbieikeaaGreatDoorBaseJ
import Derived.Deep.RegionHeld3
import Derived.Deep.DrawnRows
namespace Go.Proofs.YtfnklkdbieikeaaGreatDoor
open Go.RowKit
set_option linter.unusedVariables false
set_option linter.unusedSimpArgs false
set_option maxRecDepth 100000
attribute [local go_sem ↓] Go.wp_at_zero Go.wp_at_succ

set_option maxHeartbeats 8000000 in
theorem s13of_any (n : Int) (j : Nat) (w : World) (h1 : -1000 ≤ n) (h2 : n ≤ 1000) (hj : j ≤ 100000) :
    Calls Tryz.prog 70 #[.int .i64 n, .int .i64 (j : Int)] w (RetSp w (n * 2 ^ j) (n * 2 ^ j)) := by
  have L0 := Lq.mk0 w
  have h3 := len_le1 (x := n.natAbs) (by omega)
  have g1 := fun W => rzof_any n W (by omega) (by omega)
  have g2 := fun v W h => rzshl_any n v W h (show zl n ≤ 274877906944 from Nat.le_trans h3 (by omega)) j (by omega)
  obtain ⟨x, hx⟩ : ∃ z, n * 2 ^ j = z := ⟨_, rfl⟩
  rw [hx] at g2 ⊢
  have H1 := Lib.hid g1
  have H2 := Lib.hid g2
  clear g1 g2 hx h3
  go_enter Tryz.func70, Tryz.ntmps70
  go_wp2_with fail
  have L := (L0.varS (w.heap.size) (by simp) false none 0 0 false none 0 0)
  have c00 := L.b0.c40
  have f00 := L.b0.fr 0
  have c01 := L.b0.c41
  have f01 := L.b0.fr 1
  have c02 := L.b0.c42
  have f02 := L.b0.fr 2
  have c03 := L.b0.c43
  have f03 := L.b0.fr 3
  (try go_wp2_with fail)
  refine (H1.out _).mono ?_
  rintro e w1 ⟨v1, rfl, iz, be⟩
  clear c00 f00 c01 f01 c02 f02 c03 f03
  replace L := (L.step be).z iz
  obtain ⟨A8, c8, rfl, _⟩ := iz.form
  clear be iz
  have c00 := L.b0.c40
  have f00 := L.b0.fr 0
  have c01 := L.b0.c41
  have f01 := L.b0.fr 1
  have c02 := L.b0.c42
  have f02 := L.b0.fr 2
  have c03 := L.b0.c43
  have f03 := L.b0.fr 3
  (try go_wp2_with fail)
  refine (H2.out _ _ (L.getZ (by simp))).mono ?_
  rintro e w2 ⟨v2, rfl, iz, be⟩
  clear c00 f00 c01 f01 c02 f02 c03 f03
  replace L := L.step be
  obtain ⟨A9, c9, rfl, in9⟩ := iz.form
  replace L := L.n in9
  clear be iz in9
  have c00 := L.b0.c40
  have f00 := L.b0.fr 0
  have c01 := L.b0.c41
  have f01 := L.b0.fr 1
  have c02 := L.b0.c42
  have f02 := L.b0.fr 2
  have c03 := L.b0.c43
  have f03 := L.b0.fr 3
  have hl9 := L.b0.lt
  have LN := L.varZ w2.heap.size rfl (ng x) A9 (zl x) c9
  have n0 := LN.b0.c20
  have n1 := LN.b0.c21
  go_wp2_with fail
  clear c00 f00 c01 f01 c02 f02 c03 f03
  have LP0 := L.putS (by omega) (by simp) (ng x) A9 (zl x) c9 (ng x) A9 (zl x) c9
  have LP := LP0.varZ _ rfl (ng x) A9 (zl x) c9
  have k0 := LP.tl.b0.c40
  have k1 := LP.tl.b0.c41
  have k2 := LP.tl.b0.c42
  have k3 := LP.tl.b0.c43
  unfold put4 at k0 k1 k2 k3
  exact bodyPost_ret (v := .agg #[.bool (ng x), .slice A9 (zl x) c9, .bool (ng x), .slice A9 (zl x) c9]) (by simp [results, Tryz.results70, go_sem, k0, k1, k2, k3]) rfl ⟨_, rfl, isS_n (LP.getN (by simp)) (LP.getN (by simp)), LP.below⟩
set_option maxHeartbeats 8000000 in
theorem s13times_any (a b n : Int) (vx : Value) (w : World) (hx : IsS w vx a b) (la : zl a ≤ 10000) (lb : zl b ≤ 10000) (h1 : -1000 ≤ n) (h2 : n ≤ 1000) :
    Calls Tryz.prog 68 #[vx, .int .i64 n] w (RetSp w (a * n) (b * n)) := by
  obtain ⟨A, c, B, d, rfl, hn1, hn2⟩ := hx.form
  have L0 := ((Lq.mk0 w).n hn2).n hn1
  have h3 := len_le1 (x := n.natAbs) (by omega)
  have g0 := fun W => rzof_any n W (by omega) (by omega)
  have g1 := fun v u W h k => rzmul_any a n v u W h k (by omega) (show zl n ≤ 274877906944 from Nat.le_trans h3 (by omega))
  have g2 := fun v u W h k => rzmul_any b n v u W h k (by omega) (show zl n ≤ 274877906944 from Nat.le_trans h3 (by omega))
  obtain ⟨x, hx⟩ : ∃ z, a * n = z := ⟨_, rfl⟩
  obtain ⟨y, hy⟩ : ∃ z, b * n = z := ⟨_, rfl⟩
  rw [hx] at g1 ⊢
  rw [hy] at g2 ⊢
  have H0 := Lib.hid g0
  have H1 := Lib.hid g1
  have H2 := Lib.hid g2
  clear g0 g1 g2 hx hy h3 hn1 hn2 la lb
  go_enter Tryz.func68, Tryz.ntmps68
  go_wp2_with fail
  have L := ((L0.varS (w.heap.size) (by simp) (ng a) A (zl a) c (ng b) B (zl b) d).varS (w.heap.size + 1) (by simp) false none 0 0 false none 0 0)
  have c00 := L.b0.c40
  have f00 := L.b0.fr 0
  have c01 := L.b0.c41
  have f01 := L.b0.fr 1
  have c02 := L.b0.c42
  have f02 := L.b0.fr 2
  have c03 := L.b0.c43
  have f03 := L.b0.fr 3
  have c10 := L.tl.b0.c40
  have c11 := L.tl.b0.c41
  have c12 := L.tl.b0.c42
  have c13 := L.tl.b0.c43
  (try go_wp2_with fail)
  refine (H0.out _).mono ?_
  rintro e w1 ⟨v1, rfl, iz, be⟩
  clear c00 f00 c01 f01 c02 f02 c03 f03 c10 c11 c12 c13
  replace L := L.step be
  obtain ⟨A7, c7, rfl, in9⟩ := iz.form
  replace L := L.n in9
  clear be iz in9
  have hl9 := L.b0.lt
  replace L := L.varZ w1.heap.size rfl (ng n) A7 (zl n) c7
  have c00 := L.b0.c20
  have f00 := L.b0.fr 0
  have c01 := L.b0.c21
  have f01 := L.b0.fr 1
  have c10 := L.tl.b0.c40
  have f10 := L.tl.b0.fr 0
  have c11 := L.tl.b0.c41
  have f11 := L.tl.b0.fr 1
  have c12 := L.tl.b0.c42
  have f12 := L.tl.b0.fr 2
  have c13 := L.tl.b0.c43
  have f13 := L.tl.b0.fr 3
  have c20 := L.tl.tl.b0.c40
  have c21 := L.tl.tl.b0.c41
  have c22 := L.tl.tl.b0.c42
  have c23 := L.tl.tl.b0.c43
  (try go_wp2_with fail)
  clear c00 f00 c01 f01 c10 f10 c11 f11 c12 f12 c13 f13 c20 c21 c22 c23
  obtain ⟨gx, hgx⟩ : ∃ gx, w1.heap.size = gx := ⟨_, rfl⟩
  replace L := L.drew
  rw [hgx] at L hl9 ⊢
  clear hgx
  have n1 : w.heap.size + 1 ≠ gx := by omega
  replace L := L.swap
  have c00 := L.b0.c40
  have f00 := L.b0.fr 0
  have c01 := L.b0.c41
  have f01 := L.b0.fr 1
  have c02 := L.b0.c42
  have f02 := L.b0.fr 2
  have c03 := L.b0.c43
  have f03 := L.b0.fr 3
  have c10 := L.tl.b0.c20
  have f10 := L.tl.b0.fr 0
  have c11 := L.tl.b0.c21
  have f11 := L.tl.b0.fr 1
  have c20 := L.tl.tl.b0.c40
  have c21 := L.tl.tl.b0.c41
  have c22 := L.tl.tl.b0.c42
  have c23 := L.tl.tl.b0.c43
  go_region_held3 (fun w' => w'.cell? ⟨w.heap.size, 0, none⟩ = some (.bool (ng a)) ∧ w'.cell? ⟨w.heap.size, 1, none⟩ = some (.slice A (zl a) c) ∧ w'.cell? ⟨w.heap.size, 2, none⟩ = some (.bool (ng b)) ∧ w'.cell? ⟨w.heap.size, 3, none⟩ = some (.slice B (zl b) d) ∧ w'.cell? ⟨gx, 0, none⟩ = some (.bool (ng n)) ∧ w'.cell? ⟨gx, 1, none⟩ = some (.slice A7 (zl n) c7)) (first | (with_reducible exact ⟨L.tl.tl.b0.c40, L.tl.tl.b0.c41, L.tl.tl.b0.c42, L.tl.tl.b0.c43, L.tl.b0.c20, L.tl.b0.c21⟩) | (have LP := L.putS (by omega) (by first | (simp; done) | (simp; omega)) (ng x) A8 (zl x) c8 (ng y) A9 (zl y) c9; unfold put4 at LP; with_reducible exact ⟨LP.tl.tl.b0.c40, LP.tl.tl.b0.c41, LP.tl.tl.b0.c42, LP.tl.tl.b0.c43, LP.tl.b0.c20, LP.tl.b0.c21⟩) | exact ⟨L.tl.tl.b0.c40, L.tl.tl.b0.c41, L.tl.tl.b0.c42, L.tl.tl.b0.c43, L.tl.b0.c20, L.tl.b0.c21⟩) (first | (go_at_call 125; (with_reducible refine (H1.out _ _ _ ?_ ?_ ).mono ?_); (· (refine isZ_s (L.getN ?_); (repeat (first | (with_reducible exact List.mem_cons_self) | apply List.mem_cons_of_mem)))); (· (refine isZ_s (L.getN ?_); (repeat (first | (with_reducible exact List.mem_cons_self) | apply List.mem_cons_of_mem)))); rintro e wh ⟨vh, rfl, iz, be⟩; obtain ⟨A8, c8, rfl, in9⟩ := iz.form; replace L := (L.step be).n in9; clear be iz in9; (try (have x00 := L.b0.c40; have y00 := L.b0.fr 0; have x01 := L.b0.c41; have y01 := L.b0.fr 1; have x02 := L.b0.c42; have y02 := L.b0.fr 2; have x03 := L.b0.c43; have y03 := L.b0.fr 3))) | (go_at_call 125; (with_reducible refine (H2.out _ _ _ ?_ ?_ ).mono ?_); (· (refine isZ_s (L.getN ?_); (repeat (first | (with_reducible exact List.mem_cons_self) | apply List.mem_cons_of_mem)))); (· (refine isZ_s (L.getN ?_); (repeat (first | (with_reducible exact List.mem_cons_self) | apply List.mem_cons_of_mem)))); rintro e wh ⟨vh, rfl, iz, be⟩; obtain ⟨A9, c9, rfl, in9⟩ := iz.form; replace L := (L.step be).n in9; clear be iz in9; (try (have x00 := L.b0.c40; have y00 := L.b0.fr 0; have x01 := L.b0.c41; have y01 := L.b0.fr 1; have x02 := L.b0.c42; have y02 := L.b0.fr 2; have x03 := L.b0.c43; have y03 := L.b0.fr 3))))
  clear c00 f00 c01 f01 c02 f02 c03 f03 c10 f10 c11 f11 c20 c21 c22 c23
  go_wp2_with fail
  have LP := L.putS (by omega) (by first | (simp; done) | (simp; omega)) (ng x) A8 (zl x) c8 (ng y) A9 (zl y) c9
  have k0 := LP.b0.c40
  have k1 := LP.b0.c41
  have k2 := LP.b0.c42
  have k3 := LP.b0.c43
  unfold put4 at k0 k1 k2 k3
  exact bodyPost_ret (v := .agg #[.bool (ng x), .slice A8 (zl x) c8, .bool (ng y), .slice A9 (zl y) c9]) (by simp [results, Tryz.results68, go_sem, k0, k1, k2, k3]) rfl ⟨_, rfl, isS_n (LP.getN (by simp)) (LP.getN (by simp)), LP.below⟩
set_option maxHeartbeats 8000000 in
theorem s13wide_any (a b n : Int) (vx : Value) (w : World) (hx : IsS w vx a b) (la : zl a ≤ 10000) (lb : zl b ≤ 10000) (h1 : -1000 ≤ n) (h2 : n ≤ 1000) :
    Calls Tryz.prog 74 #[vx, .int .i64 n] w (RetSp w (a - n) (b + n)) := by
  obtain ⟨A, c, B, d, rfl, hn1, hn2⟩ := hx.form
  have L0 := ((Lq.mk0 w).n hn2).n hn1
  have h3 := len_le1 (x := n.natAbs) (by omega)
  have g0 := fun W => rzof_any n W (by omega) (by omega)
  have g1 := fun v u W h k => rzsub_any a n v u W h k (by omega) (show zl n ≤ 274877906944 from Nat.le_trans h3 (by omega))
  have g2 := fun v u W h k => rzadd_any b n v u W h k (by omega) (show zl n ≤ 274877906944 from Nat.le_trans h3 (by omega))
  obtain ⟨x, hx⟩ : ∃ z, a - n = z := ⟨_, rfl⟩
  obtain ⟨y, hy⟩ : ∃ z, b + n = z := ⟨_, rfl⟩
  rw [hx] at g1 ⊢
  rw [hy] at g2 ⊢
  have H0 := Lib.hid g0
  have H1 := Lib.hid g1
  have H2 := Lib.hid g2
  clear g0 g1 g2 hx hy h3 hn1 hn2 la lb
  go_enter Tryz.func74, Tryz.ntmps74
  go_wp2_with fail
  have L := ((L0.varS (w.heap.size) (by simp) (ng a) A (zl a) c (ng b) B (zl b) d).varS (w.heap.size + 1) (by simp) false none 0 0 false none 0 0)
  replace L := L.drew
  have c00 := L.b0.c40
  have f00 := L.b0.fr 0
  have c01 := L.b0.c41
  have f01 := L.b0.fr 1
  have c02 := L.b0.c42
  have f02 := L.b0.fr 2
  have c03 := L.b0.c43
  have f03 := L.b0.fr 3
  have c10 := L.tl.b0.c40
  have c11 := L.tl.b0.c41
  have c12 := L.tl.b0.c42
  have c13 := L.tl.b0.c43
  go_region_held3 (fun w' => w'.cell? ⟨w.heap.size, 0, none⟩ = some (.bool (ng a)) ∧ w'.cell? ⟨w.heap.size, 1, none⟩ = some (.slice A (zl a) c) ∧ w'.cell? ⟨w.heap.size, 2, none⟩ = some (.bool (ng b)) ∧ w'.cell? ⟨w.heap.size, 3, none⟩ = some (.slice B (zl b) d)) (first | (with_reducible exact ⟨L.tl.b0.c40, L.tl.b0.c41, L.tl.b0.c42, L.tl.b0.c43⟩) | (have LP := L.putS (by omega) (by first | (simp; done) | (simp; omega)) (ng x) A8 (zl x) c8 (ng y) A9 (zl y) c9; unfold put4 at LP; with_reducible exact ⟨LP.tl.b0.c40, LP.tl.b0.c41, LP.tl.b0.c42, LP.tl.b0.c43⟩) | exact ⟨L.tl.b0.c40, L.tl.b0.c41, L.tl.b0.c42, L.tl.b0.c43⟩) (first | (go_at_call 45; (with_reducible refine (H0.out _ ).mono ?_); rintro e wh ⟨vh, rfl, iz, be⟩; obtain ⟨A7, c7, rfl, in9⟩ := iz.form; replace L := (L.step be).n in9; clear be iz in9; (try (have x00 := L.b0.c40; have y00 := L.b0.fr 0; have x01 := L.b0.c41; have y01 := L.b0.fr 1; have x02 := L.b0.c42; have y02 := L.b0.fr 2; have x03 := L.b0.c43; have y03 := L.b0.fr 3))) | (go_at_call 127; (with_reducible refine (H1.out _ _ _ ?_ ?_ ).mono ?_); (· (refine isZ_s (L.getN ?_); (repeat (first | (with_reducible exact List.mem_cons_self) | apply List.mem_cons_of_mem)))); (· (refine isZ_s (L.getN ?_); (repeat (first | (with_reducible exact List.mem_cons_self) | apply List.mem_cons_of_mem)))); rintro e wh ⟨vh, rfl, iz, be⟩; obtain ⟨A8, c8, rfl, in9⟩ := iz.form; replace L := (L.step be).n in9; clear be iz in9; (try (have x00 := L.b0.c40; have y00 := L.b0.fr 0; have x01 := L.b0.c41; have y01 := L.b0.fr 1; have x02 := L.b0.c42; have y02 := L.b0.fr 2; have x03 := L.b0.c43; have y03 := L.b0.fr 3))) | (go_at_call 91; (with_reducible refine (H2.out _ _ _ ?_ ?_ ).mono ?_); (· (refine isZ_s (L.getN ?_); (repeat (first | (with_reducible exact List.mem_cons_self) | apply List.mem_cons_of_mem)))); (· (refine isZ_s (L.getN ?_); (repeat (first | (with_reducible exact List.mem_cons_self) | apply List.mem_cons_of_mem)))); rintro e wh ⟨vh, rfl, iz, be⟩; obtain ⟨A9, c9, rfl, in9⟩ := iz.form; replace L := (L.step be).n in9; clear be iz in9; (try (have x00 := L.b0.c40; have y00 := L.b0.fr 0; have x01 := L.b0.c41; have y01 := L.b0.fr 1; have x02 := L.b0.c42; have y02 := L.b0.fr 2; have x03 := L.b0.c43; have y03 := L.b0.fr 3))))
  clear c00 f00 c01 f01 c02 f02 c03 f03 c10 c11 c12 c13
  go_wp2_with fail
  have LP := L.putS (by omega) (by first | (simp; done) | (simp; omega)) (ng x) A8 (zl x) c8 (ng y) A9 (zl y) c9
  have k0 := LP.b0.c40
  have k1 := LP.b0.c41
  have k2 := LP.b0.c42
  have k3 := LP.b0.c43
  unfold put4 at k0 k1 k2 k3
  exact bodyPost_ret (v := .agg #[.bool (ng x), .slice A8 (zl x) c8, .bool (ng y), .slice A9 (zl y) c9]) (by simp [results, Tryz.results74, go_sem, k0, k1, k2, k3]) rfl ⟨_, rfl, isS_n (LP.getN (by simp)) (LP.getN (by simp)), LP.below⟩
set_option maxHeartbeats 8000000 in
theorem s13tiny_any (a b : Int) (vx : Value) (w : World) (hx : IsS w vx a b) (la : zl a ≤ 10000) (lb : zl b ≤ 10000) :
    Calls Tryz.prog 71 #[vx] w (RetB w (tnB a b)) := by
  obtain ⟨A, c, B, d, rfl, hn1, hn2⟩ := hx.form
  have L0 := ((Lq.mk0 w).n hn2).n hn1
  have e1 : decide (a.natAbs ≤ 1) = decide (cmpI (a.natAbs : Int) ((1 : Nat) : Int) ≤ 0) := by
    rw [decide_eq_decide, cmpI_le]
    omega
  have e2 : decide (b.natAbs ≤ 1) = decide (cmpI (b.natAbs : Int) ((1 : Nat) : Int) ≤ 0) := by
    rw [decide_eq_decide, cmpI_le]
    omega
  have g0 := fun W => rof_any 1 W (by omega)
  have g1 := fun v u W h k => rcmpB_any a.natAbs 1 v u W h k
  have g2 := fun v u W h k => rcmpB_any b.natAbs 1 v u W h k
  unfold tnB
  rw [e1, e2]
  obtain ⟨x, hx⟩ : ∃ z, cmpI (a.natAbs : Int) ((1 : Nat) : Int) = z := ⟨_, rfl⟩
  obtain ⟨y, hy⟩ : ∃ z, cmpI (b.natAbs : Int) ((1 : Nat) : Int) = z := ⟨_, rfl⟩
  rw [hx] at g1 ⊢
  rw [hy] at g2 ⊢
  have H0 := Lib.hid g0
  have H1 := Lib.hid g1
  have H2 := Lib.hid g2
  clear g0 g1 g2 hx hy e1 e2 hn1 hn2 la lb
  cases t1 : decide (x ≤ 0)
  · have n1 : ¬ x ≤ 0 := of_decide_eq_false t1
    rw [Bool.false_and]
    go_enter Tryz.func71, Tryz.ntmps71
    go_wp2_with fail
    have L := (L0.varS (w.heap.size) (by simp) (ng a) A (zl a) c (ng b) B (zl b) d)
    have c00 := L.b0.c40
    have c01 := L.b0.c41
    have c02 := L.b0.c42
    have c03 := L.b0.c43
    (try go_wp2_with fail)
    refine (H0.out _).mono ?_
    rintro e w1 ⟨vv, rfl, o⟩
    clear c00 c01 c02 c03
    replace L := (L.step o.below).n o.isN
    clear o
    have c00 := L.b0.c40
    have c01 := L.b0.c41
    have c02 := L.b0.c42
    have c03 := L.b0.c43
    (try go_wp2_with fail)
    refine (H1.out _ _ _ (L.getN (by simp)) (L.getN (by simp))).mono ?_
    rintro e w2 ⟨rfl, be⟩
    clear c00 c01 c02 c03
    replace L := L.step be
    clear be
    have c00 := L.b0.c40
    have c01 := L.b0.c41
    have c02 := L.b0.c42
    have c03 := L.b0.c43
    (try go_wp2_with fail)
    go_ret
    exact ⟨rfl, L.below⟩
  · have n1 : x ≤ 0 := of_decide_eq_true t1
    rw [Bool.true_and]
    obtain ⟨z, hz⟩ : ∃ z, decide (y ≤ 0) = z := ⟨_, rfl⟩
    rw [hz]
    go_enter Tryz.func71, Tryz.ntmps71
    go_wp2_with fail
    have L := (L0.varS (w.heap.size) (by simp) (ng a) A (zl a) c (ng b) B (zl b) d)
    have c00 := L.b0.c40
    have c01 := L.b0.c41
    have c02 := L.b0.c42
    have c03 := L.b0.c43
    (try go_wp2_with fail)
    refine (H0.out _).mono ?_
    rintro e w1 ⟨vv, rfl, o⟩
    clear c00 c01 c02 c03
    replace L := (L.step o.below).n o.isN
    clear o
    have c00 := L.b0.c40
    have c01 := L.b0.c41
    have c02 := L.b0.c42
    have c03 := L.b0.c43
    (try go_wp2_with fail)
    refine (H1.out _ _ _ (L.getN (by simp)) (L.getN (by simp))).mono ?_
    rintro e w2 ⟨rfl, be⟩
    clear c00 c01 c02 c03
    replace L := L.step be
    clear be
    have c00 := L.b0.c40
    have c01 := L.b0.c41
    have c02 := L.b0.c42
    have c03 := L.b0.c43
    (try go_wp2_with fail)
    refine (H2.out _ _ _ (L.getN (by simp)) (L.getN (by simp))).mono ?_
    rintro e w3 ⟨rfl, be⟩
    clear c00 c01 c02 c03
    replace L := L.step be
    clear be
    (try go_wp2_with fail)
    go_ret
    exact ⟨rfl, L.below⟩

end Go.Proofs.YtfnklkdbieikeaaGreatDoor
