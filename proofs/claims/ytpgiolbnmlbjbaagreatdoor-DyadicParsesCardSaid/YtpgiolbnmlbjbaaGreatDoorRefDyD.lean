/- The reference's Mul, Add, Sub, Cmp. -/
import Derived.Test.YtpgiolbnmlbjbaaGreatDoorRefDyA
import Derived.Test.YtpgiolbnmlbjbaaGreatDoorRefDyC
import Derived.Test.YtpgiolbnmlbjbaaGreatDoorBaseI
import Derived.Deep.RegionHeld3
import Derived.Deep.DrawnRows
namespace Go.Proofs.YtpgiolbnmlbjbaaGreatDoor
open Go.RowKit
set_option linter.unusedVariables false
set_option linter.unusedSimpArgs false
set_option maxRecDepth 100000
attribute [local go_sem ↓] Go.wp_at_zero Go.wp_at_succ

/-- The sum of two dyadics' mantissas, brought to one exponent. -/
def addS (m e n k : Int) : Int := m * 2 ^ (e - min e k).toNat + n * 2 ^ (k - min e k).toNat

set_option maxHeartbeats 4000000 in
theorem rmul8_any (m e n k : Int) (vx vy : Value) (w : World) (hx : IsD w vx m e) (hy : IsD w vy n k) (lm : zl m ≤ 100000) (ln : zl n ≤ 100000) (he : -100000 ≤ e ∧ e ≤ 100000) (hk : -100000 ≤ k ∧ k ≤ 100000) :
    Calls Tryz.prog 34 #[vx, vy] w (RetDE w (mkM (m * n) (e + k)) (mkE (m * n) (e + k)) (mkR (m * n) (e + k))) := by
  obtain ⟨A, c, rfl, hz, hn⟩ := hx.form
  obtain ⟨B, d, rfl, hz2, hn2⟩ := hy.form
  have L0 := ((Lq.mk0 w).z hz2).z hz
  have l1 := zl_mul m n
  obtain ⟨ek, hek⟩ : ∃ ek, e + k = ek := ⟨_, rfl⟩
  have hw : IntKind.i64.wrap (e + k) = ek := by rw [← hek, IntKind.wrap_i64]; omega
  have H1 := Lib.hid (fun v u W h1 h2 => rzmul_any m n v u W h1 h2 (by omega) (by omega))
  have HM0 := fun v W h => rmake8_any (m * n) ek v W h (by omega)
  clear hx hy hz hn hz2 hn2
  rw [hek]
  obtain ⟨R, hR⟩ : ∃ R, mkR (m * n) ek = R := ⟨_, rfl⟩
  obtain ⟨M, hM⟩ : ∃ M, mkM (m * n) ek = M := ⟨_, rfl⟩
  obtain ⟨E, hE⟩ : ∃ E, mkE (m * n) ek = E := ⟨_, rfl⟩
  rw [hR, hM, hE] at HM0 ⊢
  have HM := Lib.hid HM0
  clear HM0 hR hM hE
  clear l1 lm ln he hk hek
  generalize m * n = p at *
  go_enter Tryz.func34, Tryz.ntmps34
  go_wp2_with fail
  have L := (((L0.varD (w.heap.size) (by simp) (ng m) A (zl m) c e).varD (w.heap.size + 1) (by simp) (ng n) B (zl n) d k).varD (w.heap.size + 2) (by simp) false none 0 0 0)
  replace L := L.drew
  have c00 := L.b0.c30
  have f00 := L.b0.fr 0
  have c01 := L.b0.c31
  have f01 := L.b0.fr 1
  have c02 := L.b0.c32
  have f02 := L.b0.fr 2
  have c10 := L.tl.b0.c30
  have c11 := L.tl.b0.c31
  have c12 := L.tl.b0.c32
  have c20 := L.tl.tl.b0.c30
  have c21 := L.tl.tl.b0.c31
  have c22 := L.tl.tl.b0.c32
  go_region_held3 (fun w' => w'.cell? ⟨w.heap.size, 0, none⟩ = some (.bool (ng m)) ∧ w'.cell? ⟨w.heap.size, 1, none⟩ = some (.slice A (zl m) c) ∧ w'.cell? ⟨w.heap.size, 2, none⟩ = some (.int .i64 e) ∧ w'.cell? ⟨w.heap.size + 1, 0, none⟩ = some (.bool (ng n)) ∧ w'.cell? ⟨w.heap.size + 1, 1, none⟩ = some (.slice B (zl n) d) ∧ w'.cell? ⟨w.heap.size + 1, 2, none⟩ = some (.int .i64 k)) (first | (with_reducible exact ⟨L.tl.tl.b0.c30, L.tl.tl.b0.c31, L.tl.tl.b0.c32, L.tl.b0.c30, L.tl.b0.c31, L.tl.b0.c32⟩) | exact ⟨L.tl.tl.b0.c30, L.tl.tl.b0.c31, L.tl.tl.b0.c32, L.tl.b0.c30, L.tl.b0.c31, L.tl.b0.c32⟩ | (have LP := L.putD (by omega) (by first | (simp; done) | (simp; omega)) (ng M) A9 (zl M) c9 (E); exact ⟨LP.tl.tl.b0.c30, LP.tl.tl.b0.c31, LP.tl.tl.b0.c32, LP.tl.b0.c30, LP.tl.b0.c31, LP.tl.b0.c32⟩)) (first | (go_at_call 79; (with_reducible refine (H1.out _ _ _ ?_ ?_ ).mono ?_); (· (refine L.getZ ?_; (repeat (first | (with_reducible exact List.mem_cons_self) | apply List.mem_cons_of_mem)))); (· (refine L.getZ ?_; (repeat (first | (with_reducible exact List.mem_cons_self) | apply List.mem_cons_of_mem)))); rintro e wh ⟨vh, rfl, iz, be⟩; replace L := (L.step be).z iz; obtain ⟨A8, c8, rfl, _⟩ := iz.form; clear be iz; (try (have x00 := L.b0.c30; have x01 := L.b0.c31; have x02 := L.b0.c32; have y00 := L.b0.fr 0; have y01 := L.b0.fr 1; have y02 := L.b0.fr 2))) | (go_at_call 15; (with_reducible refine (HM.out _ _ ?_ ).mono ?_); (· (refine L.getZ ?_; (repeat (first | (with_reducible exact List.mem_cons_self) | apply List.mem_cons_of_mem)))); rintro e wh ⟨vh, rfl, id, be⟩; obtain ⟨A9, c9, rfl, _, in9⟩ := id.form; replace L := (L.step be).n in9; clear be id in9; (try (have x00 := L.b0.c30; have x01 := L.b0.c31; have x02 := L.b0.c32; have y00 := L.b0.fr 0; have y01 := L.b0.fr 1; have y02 := L.b0.fr 2))))
  clear c00 f00 c01 f01 c02 f02 c10 c11 c12 c20 c21 c22
  go_wp2_with fail
  have LP := L.putD (by omega) (by first | (simp; done) | (simp; omega)) (ng M) A9 (zl M) c9 (E)
  have k0 := LP.b0.c30
  have k1 := LP.b0.c31
  have k2 := LP.b0.c32
  unfold put3 at k0 k1 k2
  exact bodyPost_ret (v := .tuple #[.agg #[.bool (ng M), .slice A9 (zl M) c9, .int .i64 (E)], .int .i64 R]) (by simp [results, Tryz.results34, go_sem, k0, k1, k2]) rfl ⟨_, rfl, isD_n LP.hn, LP.below⟩
set_option maxHeartbeats 4000000 in
theorem radd8_any (m e n k : Int) (vx vy : Value) (w : World) (hx : IsD w vx m e) (hy : IsD w vy n k) (lm : zl m ≤ 100000) (ln : zl n ≤ 100000) (he : -100000 ≤ e ∧ e ≤ 100000) (hk : -100000 ≤ k ∧ k ≤ 100000) :
    Calls Tryz.prog 33 #[vx, vy] w (RetDE w (mkM (addS m e n k) (min e k)) (mkE (addS m e n k) (min e k)) (mkR (addS m e n k) (min e k))) := by
  obtain ⟨A, c, rfl, hz, hn⟩ := hx.form
  obtain ⟨B, d, rfl, hz2, hn2⟩ := hy.form
  have L0 := ((Lq.mk0 w).z hz2).z hz
  obtain ⟨F, hF⟩ : ∃ F, min e k = F := ⟨_, rfl⟩
  obtain ⟨p, hp⟩ : ∃ p : Nat, (p : Int) = e - F := ⟨(e - F).toNat, by omega⟩
  obtain ⟨q, hq⟩ : ∃ q : Nat, (q : Int) = k - F := ⟨(k - F).toNat, by omega⟩
  have tp : (e - F).toNat = p := by omega
  have tq : (k - F).toNat = q := by omega
  have hw1 : IntKind.i64.wrap (e - F) = (p : Int) := by rw [hp, IntKind.wrap_i64]; omega
  have hw2 : IntKind.i64.wrap (k - F) = (q : Int) := by rw [hq, IntKind.wrap_i64]; omega
  have l1 := zl_shl m p
  have l2 := zl_shl n q
  have l3 := zl_add (m * 2 ^ p) (n * 2 ^ q)
  have H1 := Lib.hid (fun v W h => rzshl_any m v W h (by omega) p (by omega))
  have H2 := Lib.hid (fun v W h => rzshl_any n v W h (by omega) q (by omega))
  have H3 := Lib.hid (fun v u W h1 h2 => rzadd_any (m * 2 ^ p) (n * 2 ^ q) v u W h1 h2 (by omega) (by omega))
  have HM0 := fun v W h => rmake8_any (m * 2 ^ p + n * 2 ^ q) F v W h (by omega)
  clear hx hy hz hn hz2 hn2
  unfold addS
  rw [hF, tp, tq]
  obtain ⟨R, hR⟩ : ∃ R, mkR (m * 2 ^ p + n * 2 ^ q) F = R := ⟨_, rfl⟩
  obtain ⟨M, hM⟩ : ∃ M, mkM (m * 2 ^ p + n * 2 ^ q) F = M := ⟨_, rfl⟩
  obtain ⟨E, hE⟩ : ∃ E, mkE (m * 2 ^ p + n * 2 ^ q) F = E := ⟨_, rfl⟩
  rw [hR, hM, hE] at HM0 ⊢
  have HM := Lib.hid HM0
  clear HM0 hR hM hE
  clear l1 l2 l3 lm ln he hk tp tq hp hq
  generalize m * 2 ^ p + n * 2 ^ q = p0 at *
  generalize m * 2 ^ p = p1 at *
  generalize n * 2 ^ q = p2 at *
  go_enter Tryz.func33, Tryz.ntmps33
  go_wp2_with fail
  have L := (((L0.varD (w.heap.size) (by simp) (ng m) A (zl m) c e).varD (w.heap.size + 1) (by simp) (ng n) B (zl n) d k).varD (w.heap.size + 2) (by simp) false none 0 0 0)
  have c00 := L.b0.c30
  have f00 := L.b0.fr 0
  have c01 := L.b0.c31
  have f01 := L.b0.fr 1
  have c02 := L.b0.c32
  have f02 := L.b0.fr 2
  have c10 := L.tl.b0.c30
  have f10 := L.tl.b0.fr 0
  have c11 := L.tl.b0.c31
  have f11 := L.tl.b0.fr 1
  have c12 := L.tl.b0.c32
  have f12 := L.tl.b0.fr 2
  have c20 := L.tl.tl.b0.c30
  have f20 := L.tl.tl.b0.fr 0
  have c21 := L.tl.tl.b0.c31
  have f21 := L.tl.tl.b0.fr 1
  have c22 := L.tl.tl.b0.c32
  have f22 := L.tl.tl.b0.fr 2
  go_wp2_with fail
  clear c00 f00 c01 f01 c02 f02 c10 f10 c11 f11 c12 f12 c20 f20 c21 f21 c22 f22
  replace L := L.drew
  have c00 := L.b0.c30
  have f00 := L.b0.fr 0
  have c01 := L.b0.c31
  have f01 := L.b0.fr 1
  have c02 := L.b0.c32
  have f02 := L.b0.fr 2
  have c10 := L.tl.b0.c30
  have c11 := L.tl.b0.c31
  have c12 := L.tl.b0.c32
  have c20 := L.tl.tl.b0.c30
  have c21 := L.tl.tl.b0.c31
  have c22 := L.tl.tl.b0.c32
  go_region_held3 (fun w' => w'.cell? ⟨w.heap.size, 0, none⟩ = some (.bool (ng m)) ∧ w'.cell? ⟨w.heap.size, 1, none⟩ = some (.slice A (zl m) c) ∧ w'.cell? ⟨w.heap.size, 2, none⟩ = some (.int .i64 e) ∧ w'.cell? ⟨w.heap.size + 1, 0, none⟩ = some (.bool (ng n)) ∧ w'.cell? ⟨w.heap.size + 1, 1, none⟩ = some (.slice B (zl n) d) ∧ w'.cell? ⟨w.heap.size + 1, 2, none⟩ = some (.int .i64 k)) (first | (with_reducible exact ⟨L.tl.tl.b0.c30, L.tl.tl.b0.c31, L.tl.tl.b0.c32, L.tl.b0.c30, L.tl.b0.c31, L.tl.b0.c32⟩) | exact ⟨L.tl.tl.b0.c30, L.tl.tl.b0.c31, L.tl.tl.b0.c32, L.tl.b0.c30, L.tl.b0.c31, L.tl.b0.c32⟩ | (have LP := L.putD (by omega) (by first | (simp; done) | (simp; omega)) (ng M) A9 (zl M) c9 (E); exact ⟨LP.tl.tl.b0.c30, LP.tl.tl.b0.c31, LP.tl.tl.b0.c32, LP.tl.b0.c30, LP.tl.b0.c31, LP.tl.b0.c32⟩)) (first | (go_at_call 12; (with_reducible refine (H1.out _ _ ?_ ).mono ?_); (· (refine L.getZ ?_; (repeat (first | (with_reducible exact List.mem_cons_self) | apply List.mem_cons_of_mem)))); rintro e wh ⟨vh, rfl, iz, be⟩; replace L := (L.step be).z iz; obtain ⟨A8, c8, rfl, _⟩ := iz.form; clear be iz; (try (have x00 := L.b0.c30; have x01 := L.b0.c31; have x02 := L.b0.c32; have y00 := L.b0.fr 0; have y01 := L.b0.fr 1; have y02 := L.b0.fr 2))) | (go_at_call 12; (with_reducible refine (H2.out _ _ ?_ ).mono ?_); (· (refine L.getZ ?_; (repeat (first | (with_reducible exact List.mem_cons_self) | apply List.mem_cons_of_mem)))); rintro e wh ⟨vh, rfl, iz, be⟩; replace L := (L.step be).z iz; obtain ⟨A8, c8, rfl, _⟩ := iz.form; clear be iz; (try (have x00 := L.b0.c30; have x01 := L.b0.c31; have x02 := L.b0.c32; have y00 := L.b0.fr 0; have y01 := L.b0.fr 1; have y02 := L.b0.fr 2))) | (go_at_call 78; (with_reducible refine (H3.out _ _ _ ?_ ?_ ).mono ?_); (· (refine L.getZ ?_; (repeat (first | (with_reducible exact List.mem_cons_self) | apply List.mem_cons_of_mem)))); (· (refine L.getZ ?_; (repeat (first | (with_reducible exact List.mem_cons_self) | apply List.mem_cons_of_mem)))); rintro e wh ⟨vh, rfl, iz, be⟩; replace L := (L.step be).z iz; obtain ⟨A8, c8, rfl, _⟩ := iz.form; clear be iz; (try (have x00 := L.b0.c30; have x01 := L.b0.c31; have x02 := L.b0.c32; have y00 := L.b0.fr 0; have y01 := L.b0.fr 1; have y02 := L.b0.fr 2))) | (go_at_call 15; (with_reducible refine (HM.out _ _ ?_ ).mono ?_); (· (refine L.getZ ?_; (repeat (first | (with_reducible exact List.mem_cons_self) | apply List.mem_cons_of_mem)))); rintro e wh ⟨vh, rfl, id, be⟩; obtain ⟨A9, c9, rfl, _, in9⟩ := id.form; replace L := (L.step be).n in9; clear be id in9; (try (have x00 := L.b0.c30; have x01 := L.b0.c31; have x02 := L.b0.c32; have y00 := L.b0.fr 0; have y01 := L.b0.fr 1; have y02 := L.b0.fr 2))))
  clear c00 f00 c01 f01 c02 f02 c10 c11 c12 c20 c21 c22
  go_wp2_with fail
  have LP := L.putD (by omega) (by first | (simp; done) | (simp; omega)) (ng M) A9 (zl M) c9 (E)
  have k0 := LP.b0.c30
  have k1 := LP.b0.c31
  have k2 := LP.b0.c32
  unfold put3 at k0 k1 k2
  exact bodyPost_ret (v := .tuple #[.agg #[.bool (ng M), .slice A9 (zl M) c9, .int .i64 (E)], .int .i64 R]) (by simp [results, Tryz.results33, go_sem, k0, k1, k2]) rfl ⟨_, rfl, isD_n LP.hn, LP.below⟩
set_option maxHeartbeats 4000000 in
theorem rcmp8_any (m e n k : Int) (vx vy : Value) (w : World) (hx : IsD w vx m e) (hy : IsD w vy n k) (lm : zl m ≤ 100000) (ln : zl n ≤ 100000) (he : -100000 ≤ e ∧ e ≤ 100000) (hk : -100000 ≤ k ∧ k ≤ 100000) :
    Calls Tryz.prog 36 #[vx, vy] w (RetI w (cmpI (m * 2 ^ (e - min e k).toNat) (n * 2 ^ (k - min e k).toNat))) := by
  obtain ⟨A, c, rfl, hz, hn⟩ := hx.form
  obtain ⟨B, d, rfl, hz2, hn2⟩ := hy.form
  have L0 := ((Lq.mk0 w).z hz2).z hz
  obtain ⟨F, hF⟩ : ∃ F, min e k = F := ⟨_, rfl⟩
  obtain ⟨p, hp⟩ : ∃ p : Nat, (p : Int) = e - F := ⟨(e - F).toNat, by omega⟩
  obtain ⟨q, hq⟩ : ∃ q : Nat, (q : Int) = k - F := ⟨(k - F).toNat, by omega⟩
  have tp : (e - F).toNat = p := by omega
  have tq : (k - F).toNat = q := by omega
  have hw1 : IntKind.i64.wrap (e - F) = (p : Int) := by rw [hp, IntKind.wrap_i64]; omega
  have hw2 : IntKind.i64.wrap (k - F) = (q : Int) := by rw [hq, IntKind.wrap_i64]; omega
  have l1 := zl_shl m p
  have l2 := zl_shl n q
  have l3 := zl_add (m * 2 ^ p) (n * 2 ^ q)
  have H1 := Lib.hid (fun v W h => rzshl_any m v W h (by omega) p (by omega))
  have H2 := Lib.hid (fun v W h => rzshl_any n v W h (by omega) q (by omega))
  have H3 := Lib.hid (fun v u W h1 h2 => rzcmp_any (m * 2 ^ p) (n * 2 ^ q) v u W h1 h2 (by omega) (by omega))
  clear hx hy hz hn hz2 hn2
  rw [hF, tp, tq]
  clear l1 l2 l3 lm ln he hk tp tq hp hq
  generalize cmpI (m * 2 ^ p) (n * 2 ^ q) = r at *
  generalize m * 2 ^ p = p1 at *
  generalize n * 2 ^ q = p2 at *
  go_enter Tryz.func36, Tryz.ntmps36
  go_wp2_with fail
  have L := ((L0.varD (w.heap.size) (by simp) (ng m) A (zl m) c e).varD (w.heap.size + 1) (by simp) (ng n) B (zl n) d k)
  have c00 := L.b0.c30
  have f00 := L.b0.fr 0
  have c01 := L.b0.c31
  have f01 := L.b0.fr 1
  have c02 := L.b0.c32
  have f02 := L.b0.fr 2
  have c10 := L.tl.b0.c30
  have f10 := L.tl.b0.fr 0
  have c11 := L.tl.b0.c31
  have f11 := L.tl.b0.fr 1
  have c12 := L.tl.b0.c32
  have f12 := L.tl.b0.fr 2
  go_wp2_with fail
  clear c00 f00 c01 f01 c02 f02 c10 f10 c11 f11 c12 f12
  replace L := L.drew
  have c00 := L.b0.c30
  have f00 := L.b0.fr 0
  have c01 := L.b0.c31
  have f01 := L.b0.fr 1
  have c02 := L.b0.c32
  have f02 := L.b0.fr 2
  have c10 := L.tl.b0.c30
  have c11 := L.tl.b0.c31
  have c12 := L.tl.b0.c32
  go_region_held3 (fun w' => w'.cell? ⟨w.heap.size, 0, none⟩ = some (.bool (ng m)) ∧ w'.cell? ⟨w.heap.size, 1, none⟩ = some (.slice A (zl m) c) ∧ w'.cell? ⟨w.heap.size, 2, none⟩ = some (.int .i64 e) ∧ w'.cell? ⟨w.heap.size + 1, 0, none⟩ = some (.bool (ng n)) ∧ w'.cell? ⟨w.heap.size + 1, 1, none⟩ = some (.slice B (zl n) d) ∧ w'.cell? ⟨w.heap.size + 1, 2, none⟩ = some (.int .i64 k)) (first | (with_reducible exact ⟨L.tl.b0.c30, L.tl.b0.c31, L.tl.b0.c32, L.b0.c30, L.b0.c31, L.b0.c32⟩) | exact ⟨L.tl.b0.c30, L.tl.b0.c31, L.tl.b0.c32, L.b0.c30, L.b0.c31, L.b0.c32⟩) (first | (go_at_call 12; (with_reducible refine (H1.out _ _ ?_ ).mono ?_); (· (refine L.getZ ?_; (repeat (first | (with_reducible exact List.mem_cons_self) | apply List.mem_cons_of_mem)))); rintro e wh ⟨vh, rfl, iz, be⟩; replace L := (L.step be).z iz; obtain ⟨A8, c8, rfl, _⟩ := iz.form; clear be iz; (try (have x00 := L.b0.c30; have x01 := L.b0.c31; have x02 := L.b0.c32; have y00 := L.b0.fr 0; have y01 := L.b0.fr 1; have y02 := L.b0.fr 2))) | (go_at_call 12; (with_reducible refine (H2.out _ _ ?_ ).mono ?_); (· (refine L.getZ ?_; (repeat (first | (with_reducible exact List.mem_cons_self) | apply List.mem_cons_of_mem)))); rintro e wh ⟨vh, rfl, iz, be⟩; replace L := (L.step be).z iz; obtain ⟨A8, c8, rfl, _⟩ := iz.form; clear be iz; (try (have x00 := L.b0.c30; have x01 := L.b0.c31; have x02 := L.b0.c32; have y00 := L.b0.fr 0; have y01 := L.b0.fr 1; have y02 := L.b0.fr 2))) | (go_at_call 85; (with_reducible refine (H3.out _ _ _ ?_ ?_ ).mono ?_); (· (refine L.getZ ?_; (repeat (first | (with_reducible exact List.mem_cons_self) | apply List.mem_cons_of_mem)))); (· (refine L.getZ ?_; (repeat (first | (with_reducible exact List.mem_cons_self) | apply List.mem_cons_of_mem)))); rintro e wh ⟨rfl, be⟩; replace L := L.step be; clear be))
  clear c00 f00 c01 f01 c02 f02 c10 c11 c12
  go_wp2_with fail
  go_ret
  exact ⟨rfl, L.below⟩
end Go.Proofs.YtpgiolbnmlbjbaaGreatDoor
