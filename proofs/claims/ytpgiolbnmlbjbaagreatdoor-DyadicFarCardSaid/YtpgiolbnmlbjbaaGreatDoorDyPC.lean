/- The program's align, Cmp, Add, Sub, Mul. -/
import Derived.Test.YtpgiolbnmlbjbaaGreatDoorDyPB
import Derived.Test.YtpgiolbnmlbjbaaGreatDoorRefDyD
import Derived.Deep.RegionHeld3
import Derived.Deep.DrawnRows
namespace Go.Proofs.YtpgiolbnmlbjbaaGreatDoor
open Go.RowKit
set_option linter.unusedVariables false
set_option linter.unusedSimpArgs false
set_option maxRecDepth 100000
attribute [local go_sem ↓] Go.wp_at_zero Go.wp_at_succ

theorem zl_shl32 (x : Int) (k : Nat) : zl (x * 2 ^ k) ≤ zl x + (k / 32 + 1) := by
  have h : (x * 2 ^ k).natAbs = x.natAbs * 2 ^ k := by rw [Int.natAbs_mul, Int.natAbs_pow]; rfl
  unfold zl
  rw [h]
  refine Nat.le_trans (len_mul _ _) (Nat.add_le_add_left (len_le ?_) _)
  rw [W32_pow]
  exact Nat.pow_lt_pow_right (by omega) (by omega)
/-- Two integers and an exponent. -/
def RetAl (w : World) (x y f : Int) (en : Ending) (w' : World) : Prop := ∃ v u, en = .returned (.tuple #[v, u, .int .i64 f]) ∧ IsZ w' v x ∧ IsZ w' u y ∧ Below w.heap.size w w'

set_option maxHeartbeats 4000000 in
theorem align_any (m e n k : Int) (vx vy : Value) (w : World) (hx : IsD w vx m e) (hy : IsD w vy n k) (lm : zl m ≤ 10000) (ln : zl n ≤ 10000) (he : -100000 ≤ e ∧ e ≤ 100000) (hk : -100000 ≤ k ∧ k ≤ 100000) :
    Calls Tryz.prog 67 #[vx, vy] w (RetAl w (m * 2 ^ (e - min e k).toNat) (n * 2 ^ (k - min e k).toNat) (min e k)) := by
  obtain ⟨A, c, rfl, hz, hn⟩ := hx.form
  obtain ⟨B, d, rfl, hz2, hn2⟩ := hy.form
  have L0 := ((Lq.mk0 w).z hz2).z hz
  obtain ⟨F, hF⟩ : ∃ F, min e k = F := ⟨_, rfl⟩
  obtain ⟨p, hp⟩ : ∃ p : Nat, (p : Int) = e - F := ⟨(e - F).toNat, by omega⟩
  obtain ⟨q, hq⟩ : ∃ q : Nat, (q : Int) = k - F := ⟨(k - F).toNat, by omega⟩
  have tp : (e - F).toNat = p := by omega
  have tq : (k - F).toNat = q := by omega
  have hw1 : IntKind.i64.wrap (e - F) = (p : Int) := by rw [hp, IntKind.wrap_i64]; omega
  have hw2 : IntKind.i64.wrap (k - F) = (q : Int) := by rw [hq, IntKind.wrap_i64]; omega
  have H1 := Lib.hid (fun v W h => zshl_any m v W h (by omega) p (by omega))
  have H2 := Lib.hid (fun v W h => zshl_any n v W h (by omega) q (by omega))
  rw [hF, tp, tq]
  clear hx hy hz hn hz2 hn2 lm ln he hk tp tq hp hq
  generalize m * 2 ^ p = a1 at *
  generalize n * 2 ^ q = a2 at *
  go_enter Tryz.func67, Tryz.ntmps67
  go_wp2_with fail
  have L := ((((L0.varD (w.heap.size) (by simp) (ng m) A (zl m) c e).varD (w.heap.size + 1) (by simp) (ng n) B (zl n) d k).varZ (w.heap.size + 2) (by simp) false none 0 0).varZ (w.heap.size + 3) (by simp) false none 0 0)
  have c00 := L.b0.c20
  have f00 := L.b0.fr 0
  have c01 := L.b0.c21
  have f01 := L.b0.fr 1
  have c10 := L.tl.b0.c20
  have f10 := L.tl.b0.fr 0
  have c11 := L.tl.b0.c21
  have f11 := L.tl.b0.fr 1
  have c20 := L.tl.tl.b0.c30
  have c21 := L.tl.tl.b0.c31
  have c22 := L.tl.tl.b0.c32
  have c30 := L.tl.tl.tl.b0.c30
  have c31 := L.tl.tl.tl.b0.c31
  have c32 := L.tl.tl.tl.b0.c32
  (try go_wp2_with fail)
  clear c00 f00 c01 f01 c10 f10 c11 f11 c20 c21 c22 c30 c31 c32
  replace L := L.drew
  have c00 := L.b0.c20
  have f00 := L.b0.fr 0
  have c01 := L.b0.c21
  have f01 := L.b0.fr 1
  have c10 := L.tl.b0.c20
  have f10 := L.tl.b0.fr 0
  have c11 := L.tl.b0.c21
  have f11 := L.tl.b0.fr 1
  have c20 := L.tl.tl.b0.c30
  have c21 := L.tl.tl.b0.c31
  have c22 := L.tl.tl.b0.c32
  have c30 := L.tl.tl.tl.b0.c30
  have c31 := L.tl.tl.tl.b0.c31
  have c32 := L.tl.tl.tl.b0.c32
  go_region_held3 (fun w' => w'.cell? ⟨w.heap.size, 0, none⟩ = some (.bool (ng m)) ∧ w'.cell? ⟨w.heap.size, 1, none⟩ = some (.slice A (zl m) c) ∧ w'.cell? ⟨w.heap.size, 2, none⟩ = some (.int .i64 e) ∧ w'.cell? ⟨w.heap.size + 1, 0, none⟩ = some (.bool (ng n)) ∧ w'.cell? ⟨w.heap.size + 1, 1, none⟩ = some (.slice B (zl n) d) ∧ w'.cell? ⟨w.heap.size + 1, 2, none⟩ = some (.int .i64 k)) (first | (with_reducible exact ⟨L.tl.tl.tl.b0.c30, L.tl.tl.tl.b0.c31, L.tl.tl.tl.b0.c32, L.tl.tl.b0.c30, L.tl.tl.b0.c31, L.tl.tl.b0.c32⟩) | exact ⟨L.tl.tl.tl.b0.c30, L.tl.tl.tl.b0.c31, L.tl.tl.tl.b0.c32, L.tl.tl.b0.c30, L.tl.tl.b0.c31, L.tl.tl.b0.c32⟩ | (have LP := L.swap.putZ (by omega) (by first | (simp; done) | (simp; omega)) (ng a1) A8 (zl a1) c8; exact ⟨LP.tl.tl.tl.b0.c30, LP.tl.tl.tl.b0.c31, LP.tl.tl.tl.b0.c32, LP.tl.tl.b0.c30, LP.tl.tl.b0.c31, LP.tl.tl.b0.c32⟩) | (have LP := L.swap.putZ (by omega) (by first | (simp; done) | (simp; omega)) (ng a1) A8 (zl a1) c8; have LR := LP.swap.putZ (by omega) (by first | (simp; done) | (simp; omega)) (ng a2) A9 (zl a2) c9; exact ⟨LR.tl.tl.tl.b0.c30, LR.tl.tl.tl.b0.c31, LR.tl.tl.tl.b0.c32, LR.tl.tl.b0.c30, LR.tl.tl.b0.c31, LR.tl.tl.b0.c32⟩)) (first | (go_at_call 73; (with_reducible refine (H1.out _ _ ?_).mono ?_); (· (refine L.getZ ?_; (repeat (first | (with_reducible exact List.mem_cons_self) | apply List.mem_cons_of_mem)))); rintro e9 wh ⟨vh, rfl, iz, be⟩; replace L := (L.step be).z iz; obtain ⟨A8, c8, rfl, _⟩ := iz.form; clear be iz; (try (have x00 := L.b0.c20; have x01 := L.b0.c21; have y00 := L.b0.fr 0; have y01 := L.b0.fr 1; have x10 := L.tl.b0.c20; have x11 := L.tl.b0.c21; have y10 := L.tl.b0.fr 0; have y11 := L.tl.b0.fr 1))) | (go_at_call 73; (with_reducible refine (H2.out _ _ ?_).mono ?_); (· (refine L.getZ ?_; (repeat (first | (with_reducible exact List.mem_cons_self) | apply List.mem_cons_of_mem)))); rintro e9 wh ⟨vh, rfl, iz, be⟩; replace L := (L.step be).z iz; obtain ⟨A9, c9, rfl, _⟩ := iz.form; clear be iz; (try (have x00 := L.b0.c20; have x01 := L.b0.c21; have y00 := L.b0.fr 0; have y01 := L.b0.fr 1; have x10 := L.tl.b0.c20; have x11 := L.tl.b0.c21; have y10 := L.tl.b0.fr 0; have y11 := L.tl.b0.fr 1))))
  clear c00 f00 c01 f01 c10 f10 c11 f11 c20 c21 c22 c30 c31 c32
  go_wp2_with fail
  have LP := L.swap.putZ (by omega) (by first | (simp; done) | (simp; omega)) (ng a1) A8 (zl a1) c8
  have LR := LP.swap.putZ (by omega) (by first | (simp; done) | (simp; omega)) (ng a2) A9 (zl a2) c9
  have k0 := LR.b0.c20
  have k1 := LR.b0.c21
  have j0 := LR.tl.b0.c20
  have j1 := LR.tl.b0.c21
  unfold put2 at k0 k1 j0 j1
  exact bodyPost_ret (v := .tuple #[.agg #[.bool (ng a1), .slice A8 (zl a1) c8], .agg #[.bool (ng a2), .slice A9 (zl a2) c9], .int .i64 F]) (by simp [results, Tryz.results67, go_sem, k0, k1, j0, j1]) rfl ⟨_, _, rfl, LR.getZ (by simp), LR.getZ (by simp), LR.below⟩
set_option maxHeartbeats 4000000 in
theorem dcmp_any (m e n k : Int) (vx vy : Value) (w : World) (hx : IsD w vx m e) (hy : IsD w vy n k) (lm : zl m ≤ 10000) (ln : zl n ≤ 10000) (he : -100000 ≤ e ∧ e ≤ 100000) (hk : -100000 ≤ k ∧ k ≤ 100000) :
    Calls Tryz.prog 35 #[vx, vy] w (RetI w (cmpI (m * 2 ^ (e - min e k).toNat) (n * 2 ^ (k - min e k).toNat))) := by
  obtain ⟨A, c, rfl, hz, hn⟩ := hx.form
  obtain ⟨B, d, rfl, hz2, hn2⟩ := hy.form
  have L0 := ((Lq.mk0 w).n hn2).n hn
  have HA := Lib.hid (fun v u W h1 h2 => align_any m e n k v u W h1 h2 (by omega) (by omega) he hk)
  obtain ⟨F, hF⟩ : ∃ F, min e k = F := ⟨_, rfl⟩
  obtain ⟨p, hp⟩ : ∃ p : Nat, (p : Int) = e - F := ⟨(e - F).toNat, by omega⟩
  obtain ⟨q, hq⟩ : ∃ q : Nat, (q : Int) = k - F := ⟨(k - F).toNat, by omega⟩
  have tp : (e - F).toNat = p := by omega
  have tq : (k - F).toNat = q := by omega
  rw [hF, tp, tq] at HA
  have l1 := zl_shl32 m p
  have l2 := zl_shl32 n q
  have l3 := zl_add (m * 2 ^ p) (n * 2 ^ q)
  have H3 := Lib.hid (fun v u W h1 h2 => zcmp_any (m * 2 ^ p) (n * 2 ^ q) v u W h1 h2 (by omega) (by omega))
  clear hx hy hz hn hz2 hn2
  rw [hF, tp, tq]
  clear l1 l2 l3 lm ln he hk tp tq hp hq
  generalize cmpI (m * 2 ^ p) (n * 2 ^ q) = r at *
  generalize m * 2 ^ p = a1 at *
  generalize n * 2 ^ q = a2 at *
  go_enter Tryz.func35, Tryz.ntmps35
  go_wp2_with fail
  have L := ((L0.varD (w.heap.size) (by simp) (ng m) A (zl m) c e).varD (w.heap.size + 1) (by simp) (ng n) B (zl n) d k)
  have c00 := L.b0.c30
  have f00 := L.b0.fr 0
  have c01 := L.b0.c31
  have f01 := L.b0.fr 1
  have c02 := L.b0.c32
  have f02 := L.b0.fr 2
  have c10 := L.tl.b0.c30
  have f10 := L.tl.b0.fr 0
  have c11 := L.tl.b0.c31
  have f11 := L.tl.b0.fr 1
  have c12 := L.tl.b0.c32
  have f12 := L.tl.b0.fr 2
  (try go_wp2_with fail)
  refine (HA.out _ _ _ (isD_n (L.getN (by simp))) (isD_n (L.getN (by simp)))).mono ?_
  rintro e w1 ⟨v1, v2, rfl, i1, i2, be⟩
  clear c00 f00 c01 f01 c02 f02 c10 f10 c11 f11 c12 f12
  replace L := ((L.step be).z i2).z i1
  obtain ⟨A8, c8, rfl, _⟩ := i1.form
  obtain ⟨A9, c9, rfl, _⟩ := i2.form
  clear be i1 i2
  have hlt := L.b0.lt
  replace L := (L.varZ w1.heap.size rfl (ng a1) A8 (zl a1) c8).varZ (w1.heap.size + 1) (by simp) (ng a2) A9 (zl a2) c9
  have c00 := L.b0.c20
  have f00 := L.b0.fr 0
  have c01 := L.b0.c21
  have f01 := L.b0.fr 1
  have c10 := L.tl.b0.c20
  have f10 := L.tl.b0.fr 0
  have c11 := L.tl.b0.c21
  have f11 := L.tl.b0.fr 1
  have c20 := L.tl.tl.b0.c30
  have c21 := L.tl.tl.b0.c31
  have c22 := L.tl.tl.b0.c32
  have c30 := L.tl.tl.tl.b0.c30
  have c31 := L.tl.tl.tl.b0.c31
  have c32 := L.tl.tl.tl.b0.c32
  (try go_wp2_with fail)
  refine (H3.out _ _ _ (L.getZ (by simp)) (L.getZ (by simp))).mono ?_
  rintro e w2 ⟨rfl, be⟩
  clear c00 f00 c01 f01 c10 f10 c11 f11 c20 c21 c22 c30 c31 c32
  replace L := L.step be
  clear be
  go_wp2_with fail
  go_ret
  exact ⟨rfl, L.below⟩
set_option maxHeartbeats 4000000 in
theorem dadd_any (m e n k : Int) (vx vy : Value) (w : World) (hx : IsD w vx m e) (hy : IsD w vy n k) (lm : zl m ≤ 10000) (ln : zl n ≤ 10000) (he : -100000 ≤ e ∧ e ≤ 100000) (hk : -100000 ≤ k ∧ k ≤ 100000) (hT : Tab w) :
    Calls Tryz.prog 22 #[vx, vy] w (RetDE w (mkM (addS m e n k) (min e k)) (mkE (addS m e n k) (min e k)) (mkR (addS m e n k) (min e k))) := by
  obtain ⟨A, c, rfl, hz, hn⟩ := hx.form
  obtain ⟨B, d, rfl, hz2, hn2⟩ := hy.form
  have L0 := ((Lq.mk0 w).n hn2).n hn
  have HA := Lib.hid (fun v u W h1 h2 => align_any m e n k v u W h1 h2 (by omega) (by omega) he hk)
  obtain ⟨F, hF⟩ : ∃ F, min e k = F := ⟨_, rfl⟩
  obtain ⟨p, hp⟩ : ∃ p : Nat, (p : Int) = e - F := ⟨(e - F).toNat, by omega⟩
  obtain ⟨q, hq⟩ : ∃ q : Nat, (q : Int) = k - F := ⟨(k - F).toNat, by omega⟩
  have tp : (e - F).toNat = p := by omega
  have tq : (k - F).toNat = q := by omega
  rw [hF, tp, tq] at HA
  have l1 := zl_shl32 m p
  have l2 := zl_shl32 n q
  have l3 := zl_add (m * 2 ^ p) (n * 2 ^ q)
  have H3 := Lib.hid (fun v u W h1 h2 => zadd_any (m * 2 ^ p) (n * 2 ^ q) v u W h1 h2 (by omega) (by omega))
  have HM0 := fun v W h (hW : Below w.heap.size w W) => dmake_any (m * 2 ^ p + n * 2 ^ q) F v W h (by omega) (hT.mono hW)
  clear hx hy hz hn hz2 hn2
  unfold addS
  rw [hF, tp, tq]
  obtain ⟨R, hR⟩ : ∃ R, mkR (m * 2 ^ p + n * 2 ^ q) F = R := ⟨_, rfl⟩
  obtain ⟨M, hM⟩ : ∃ M, mkM (m * 2 ^ p + n * 2 ^ q) F = M := ⟨_, rfl⟩
  obtain ⟨E, hE⟩ : ∃ E, mkE (m * 2 ^ p + n * 2 ^ q) F = E := ⟨_, rfl⟩
  rw [hR, hM, hE] at HM0 ⊢
  have HM := Lib.hid HM0
  clear HM0 hR hM hE
  clear l1 l2 l3 lm ln he hk tp tq hp hq
  generalize m * 2 ^ p + n * 2 ^ q = p0 at *
  generalize m * 2 ^ p = a1 at *
  generalize n * 2 ^ q = a2 at *
  go_enter Tryz.func22, Tryz.ntmps22
  go_wp2_with fail
  have L := (((L0.varD (w.heap.size) (by simp) (ng m) A (zl m) c e).varD (w.heap.size + 1) (by simp) (ng n) B (zl n) d k).varD (w.heap.size + 2) (by simp) false none 0 0 0)
  have c00 := L.b0.c30
  have f00 := L.b0.fr 0
  have c01 := L.b0.c31
  have f01 := L.b0.fr 1
  have c02 := L.b0.c32
  have f02 := L.b0.fr 2
  have c10 := L.tl.b0.c30
  have f10 := L.tl.b0.fr 0
  have c11 := L.tl.b0.c31
  have f11 := L.tl.b0.fr 1
  have c12 := L.tl.b0.c32
  have f12 := L.tl.b0.fr 2
  have c20 := L.tl.tl.b0.c30
  have f20 := L.tl.tl.b0.fr 0
  have c21 := L.tl.tl.b0.c31
  have f21 := L.tl.tl.b0.fr 1
  have c22 := L.tl.tl.b0.c32
  have f22 := L.tl.tl.b0.fr 2
  (try go_wp2_with fail)
  refine (HA.out _ _ _ (isD_n (L.getN (by simp))) (isD_n (L.getN (by simp)))).mono ?_
  rintro e w1 ⟨v1, v2, rfl, i1, i2, be⟩
  clear c00 f00 c01 f01 c02 f02 c10 f10 c11 f11 c12 f12 c20 f20 c21 f21 c22 f22
  replace L := ((L.step be).z i2).z i1
  obtain ⟨A8, c8, rfl, _⟩ := i1.form
  obtain ⟨A9, c9, rfl, _⟩ := i2.form
  clear be i1 i2
  have hlt := L.b0.lt
  replace L := (L.varZ w1.heap.size rfl (ng a1) A8 (zl a1) c8).varZ (w1.heap.size + 1) (by simp) (ng a2) A9 (zl a2) c9
  have c00 := L.b0.c20
  have f00 := L.b0.fr 0
  have c01 := L.b0.c21
  have f01 := L.b0.fr 1
  have c10 := L.tl.b0.c20
  have f10 := L.tl.b0.fr 0
  have c11 := L.tl.b0.c21
  have f11 := L.tl.b0.fr 1
  have c20 := L.tl.tl.b0.c30
  have f20 := L.tl.tl.b0.fr 0
  have c21 := L.tl.tl.b0.c31
  have f21 := L.tl.tl.b0.fr 1
  have c22 := L.tl.tl.b0.c32
  have f22 := L.tl.tl.b0.fr 2
  have c30 := L.tl.tl.tl.b0.c30
  have c31 := L.tl.tl.tl.b0.c31
  have c32 := L.tl.tl.tl.b0.c32
  have c40 := L.tl.tl.tl.tl.b0.c30
  have c41 := L.tl.tl.tl.tl.b0.c31
  have c42 := L.tl.tl.tl.tl.b0.c32
  (try go_wp2_with fail)
  refine (H3.out _ _ _ (L.getZ (by simp)) (L.getZ (by simp))).mono ?_
  rintro e w2 ⟨vs, rfl, iz, be⟩
  clear c00 f00 c01 f01 c10 f10 c11 f11 c20 f20 c21 f21 c22 f22 c30 c31 c32 c40 c41 c42
  replace L := (L.step be).z iz
  obtain ⟨A7, c7, rfl, _⟩ := iz.form
  clear be iz
  have c00 := L.b0.c20
  have f00 := L.b0.fr 0
  have c01 := L.b0.c21
  have f01 := L.b0.fr 1
  have c10 := L.tl.b0.c20
  have f10 := L.tl.b0.fr 0
  have c11 := L.tl.b0.c21
  have f11 := L.tl.b0.fr 1
  have c20 := L.tl.tl.b0.c30
  have f20 := L.tl.tl.b0.fr 0
  have c21 := L.tl.tl.b0.c31
  have f21 := L.tl.tl.b0.fr 1
  have c22 := L.tl.tl.b0.c32
  have f22 := L.tl.tl.b0.fr 2
  have c30 := L.tl.tl.tl.b0.c30
  have c31 := L.tl.tl.tl.b0.c31
  have c32 := L.tl.tl.tl.b0.c32
  have c40 := L.tl.tl.tl.tl.b0.c30
  have c41 := L.tl.tl.tl.tl.b0.c31
  have c42 := L.tl.tl.tl.tl.b0.c32
  (try go_wp2_with fail)
  refine (HM.out _ _ (L.getZ (by simp)) L.below).mono ?_
  rintro e w3 ⟨vd, rfl, id, be⟩
  clear c00 f00 c01 f01 c10 f10 c11 f11 c20 f20 c21 f21 c22 f22 c30 c31 c32 c40 c41 c42
  obtain ⟨A6, c6, rfl, _, in9⟩ := id.form
  replace L := (L.step be).n in9
  clear be in9 id
  have c00 := L.b0.c20
  have f00 := L.b0.fr 0
  have c01 := L.b0.c21
  have f01 := L.b0.fr 1
  have c10 := L.tl.b0.c20
  have f10 := L.tl.b0.fr 0
  have c11 := L.tl.b0.c21
  have f11 := L.tl.b0.fr 1
  have c20 := L.tl.tl.b0.c30
  have f20 := L.tl.tl.b0.fr 0
  have c21 := L.tl.tl.b0.c31
  have f21 := L.tl.tl.b0.fr 1
  have c22 := L.tl.tl.b0.c32
  have f22 := L.tl.tl.b0.fr 2
  have c30 := L.tl.tl.tl.b0.c30
  have c31 := L.tl.tl.tl.b0.c31
  have c32 := L.tl.tl.tl.b0.c32
  have c40 := L.tl.tl.tl.tl.b0.c30
  have c41 := L.tl.tl.tl.tl.b0.c31
  have c42 := L.tl.tl.tl.tl.b0.c32
  (try go_wp2_with fail)
  replace L := L.pull2
  have LP := L.putD (by omega) (by first | (simp; done) | (simp; omega)) (ng M) A6 (zl M) c6 (E)
  have k0 := LP.b0.c30
  have k1 := LP.b0.c31
  have k2 := LP.b0.c32
  unfold put3 at k0 k1 k2
  exact bodyPost_ret (v := .tuple #[.agg #[.bool (ng M), .slice A6 (zl M) c6, .int .i64 (E)], .int .i64 R]) (by simp [results, Tryz.results22, go_sem, k0, k1, k2]) rfl ⟨_, rfl, isD_n LP.hn, LP.below⟩
set_option maxHeartbeats 4000000 in
theorem dsub_any (m e n k : Int) (vx vy : Value) (w : World) (hx : IsD w vx m e) (hy : IsD w vy n k) (lm : zl m ≤ 10000) (ln : zl n ≤ 10000) (he : -100000 ≤ e ∧ e ≤ 100000) (hk : -100000 ≤ k ∧ k ≤ 100000) (hT : Tab w) :
    Calls Tryz.prog 23 #[vx, vy] w (RetDE w (mkM (addS m e (-n) k) (min e k)) (mkE (addS m e (-n) k) (min e k)) (mkR (addS m e (-n) k) (min e k))) := by
  obtain ⟨A, c, rfl, hz, hn⟩ := hx.form
  obtain ⟨B, d, rfl, hz2, hn2⟩ := hy.form
  have L0 := ((((Lq.mk0 w).z hz2).z hz).n hn2).n hn
  have l1 := zl_neg n
  have h1 := fun v W h => dneg_any n k v W h (by omega)
  have HM0 := fun v u W h1 h2 (hW : Below w.heap.size w W) => dadd_any m e (-n) k v u W h1 h2 (by omega) (by omega) he hk (hT.mono hW)
  clear hx hy hz hn hz2 hn2
  obtain ⟨R, hR⟩ : ∃ R, mkR (addS m e (-n) k) (min e k) = R := ⟨_, rfl⟩
  obtain ⟨M, hM⟩ : ∃ M, mkM (addS m e (-n) k) (min e k) = M := ⟨_, rfl⟩
  obtain ⟨E, hE⟩ : ∃ E, mkE (addS m e (-n) k) (min e k) = E := ⟨_, rfl⟩
  rw [hR, hM, hE] at HM0 ⊢
  have HM := Lib.hid HM0
  clear HM0 hR hM hE
  obtain ⟨nn, hnn⟩ : ∃ nn, -n = nn := ⟨_, rfl⟩
  rw [hnn] at h1 HM
  have H1 := Lib.hid h1
  clear h1 hnn l1 lm ln he hk
  go_enter Tryz.func23, Tryz.ntmps23
  go_wp2_with fail
  have L := (((L0.varD (w.heap.size) (by simp) (ng m) A (zl m) c e).varD (w.heap.size + 1) (by simp) (ng n) B (zl n) d k).varD (w.heap.size + 2) (by simp) false none 0 0 0)
  replace L := L.drew
  have c00 := L.b0.c30
  have f00 := L.b0.fr 0
  have c01 := L.b0.c31
  have f01 := L.b0.fr 1
  have c02 := L.b0.c32
  have f02 := L.b0.fr 2
  have c10 := L.tl.b0.c30
  have c11 := L.tl.b0.c31
  have c12 := L.tl.b0.c32
  have c20 := L.tl.tl.b0.c30
  have c21 := L.tl.tl.b0.c31
  have c22 := L.tl.tl.b0.c32
  go_region_held3 (fun w' => w'.cell? ⟨w.heap.size, 0, none⟩ = some (.bool (ng m)) ∧ w'.cell? ⟨w.heap.size, 1, none⟩ = some (.slice A (zl m) c) ∧ w'.cell? ⟨w.heap.size, 2, none⟩ = some (.int .i64 e) ∧ w'.cell? ⟨w.heap.size + 1, 0, none⟩ = some (.bool (ng n)) ∧ w'.cell? ⟨w.heap.size + 1, 1, none⟩ = some (.slice B (zl n) d) ∧ w'.cell? ⟨w.heap.size + 1, 2, none⟩ = some (.int .i64 k)) (first | (with_reducible exact ⟨L.tl.tl.b0.c30, L.tl.tl.b0.c31, L.tl.tl.b0.c32, L.tl.b0.c30, L.tl.b0.c31, L.tl.b0.c32⟩) | exact ⟨L.tl.tl.b0.c30, L.tl.tl.b0.c31, L.tl.tl.b0.c32, L.tl.b0.c30, L.tl.b0.c31, L.tl.b0.c32⟩ | (have LP := L.putD (by omega) (by first | (simp; done) | (simp; omega)) (ng M) A9 (zl M) c9 (E); exact ⟨LP.tl.tl.b0.c30, LP.tl.tl.b0.c31, LP.tl.tl.b0.c32, LP.tl.b0.c30, LP.tl.b0.c31, LP.tl.b0.c32⟩)) (first | (go_at_call 31; (with_reducible refine (H1.out _ _ ?_ ).mono ?_); (· (refine isD_n (L.getN ?_); (repeat (first | (with_reducible exact List.mem_cons_self) | apply List.mem_cons_of_mem)))); rintro e wh ⟨vh, rfl, id, be⟩; obtain ⟨A9, c9, rfl, _, in9⟩ := id.form; replace L := (L.step be).n in9; clear be id in9; (try (have x00 := L.b0.c30; have x01 := L.b0.c31; have x02 := L.b0.c32; have y00 := L.b0.fr 0; have y01 := L.b0.fr 1; have y02 := L.b0.fr 2))) | (go_at_call 22; (with_reducible refine (HM.out _ _ _ ?_ ?_ ?_ ).mono ?_); (· (refine isD_n (L.getN ?_); (repeat (first | (with_reducible exact List.mem_cons_self) | apply List.mem_cons_of_mem)))); (· (refine isD_n (L.getN ?_); (repeat (first | (with_reducible exact List.mem_cons_self) | apply List.mem_cons_of_mem)))); (· exact L.below); rintro e wh ⟨vh, rfl, id, be⟩; obtain ⟨A9, c9, rfl, _, in9⟩ := id.form; replace L := (L.step be).n in9; clear be id in9; (try (have x00 := L.b0.c30; have x01 := L.b0.c31; have x02 := L.b0.c32; have y00 := L.b0.fr 0; have y01 := L.b0.fr 1; have y02 := L.b0.fr 2))))
  clear c00 f00 c01 f01 c02 f02 c10 c11 c12 c20 c21 c22
  go_wp2_with fail
  have LP := L.putD (by omega) (by first | (simp; done) | (simp; omega)) (ng M) A9 (zl M) c9 (E)
  have k0 := LP.b0.c30
  have k1 := LP.b0.c31
  have k2 := LP.b0.c32
  unfold put3 at k0 k1 k2
  exact bodyPost_ret (v := .tuple #[.agg #[.bool (ng M), .slice A9 (zl M) c9, .int .i64 (E)], .int .i64 R]) (by simp [results, Tryz.results23, go_sem, k0, k1, k2]) rfl ⟨_, rfl, isD_n LP.hn, LP.below⟩
set_option maxHeartbeats 4000000 in
theorem dmul_any (m e n k : Int) (vx vy : Value) (w : World) (hx : IsD w vx m e) (hy : IsD w vy n k) (lm : zl m ≤ 10000) (ln : zl n ≤ 10000) (he : -100000 ≤ e ∧ e ≤ 100000) (hk : -100000 ≤ k ∧ k ≤ 100000) (hT : Tab w) :
    Calls Tryz.prog 24 #[vx, vy] w (RetDE w (mkM (m * n) (e + k)) (mkE (m * n) (e + k)) (mkR (m * n) (e + k))) := by
  obtain ⟨A, c, rfl, hz, hn⟩ := hx.form
  obtain ⟨B, d, rfl, hz2, hn2⟩ := hy.form
  have L0 := ((Lq.mk0 w).z hz2).z hz
  have l1 := zl_mul m n
  obtain ⟨ek, hek⟩ : ∃ ek, e + k = ek := ⟨_, rfl⟩
  have hw : IntKind.i64.wrap (e + k) = ek := by rw [← hek, IntKind.wrap_i64]; omega
  have H1 := Lib.hid (fun v u W h1 h2 => zmul_any m n v u W h1 h2 (by omega) (by omega))
  have HM0 := fun v W h (hW : Below w.heap.size w W) => dmake_any (m * n) ek v W h (by omega) (hT.mono hW)
  clear hx hy hz hn hz2 hn2
  rw [hek]
  obtain ⟨R, hR⟩ : ∃ R, mkR (m * n) ek = R := ⟨_, rfl⟩
  obtain ⟨M, hM⟩ : ∃ M, mkM (m * n) ek = M := ⟨_, rfl⟩
  obtain ⟨E, hE⟩ : ∃ E, mkE (m * n) ek = E := ⟨_, rfl⟩
  rw [hR, hM, hE] at HM0 ⊢
  have HM := Lib.hid HM0
  clear HM0 hR hM hE
  clear l1 lm ln he hk hek
  generalize m * n = p at *
  go_enter Tryz.func24, Tryz.ntmps24
  go_wp2_with fail
  have L := (((L0.varD (w.heap.size) (by simp) (ng m) A (zl m) c e).varD (w.heap.size + 1) (by simp) (ng n) B (zl n) d k).varD (w.heap.size + 2) (by simp) false none 0 0 0)
  replace L := L.drew
  have c00 := L.b0.c30
  have f00 := L.b0.fr 0
  have c01 := L.b0.c31
  have f01 := L.b0.fr 1
  have c02 := L.b0.c32
  have f02 := L.b0.fr 2
  have c10 := L.tl.b0.c30
  have c11 := L.tl.b0.c31
  have c12 := L.tl.b0.c32
  have c20 := L.tl.tl.b0.c30
  have c21 := L.tl.tl.b0.c31
  have c22 := L.tl.tl.b0.c32
  go_region_held3 (fun w' => w'.cell? ⟨w.heap.size, 0, none⟩ = some (.bool (ng m)) ∧ w'.cell? ⟨w.heap.size, 1, none⟩ = some (.slice A (zl m) c) ∧ w'.cell? ⟨w.heap.size, 2, none⟩ = some (.int .i64 e) ∧ w'.cell? ⟨w.heap.size + 1, 0, none⟩ = some (.bool (ng n)) ∧ w'.cell? ⟨w.heap.size + 1, 1, none⟩ = some (.slice B (zl n) d) ∧ w'.cell? ⟨w.heap.size + 1, 2, none⟩ = some (.int .i64 k)) (first | (with_reducible exact ⟨L.tl.tl.b0.c30, L.tl.tl.b0.c31, L.tl.tl.b0.c32, L.tl.b0.c30, L.tl.b0.c31, L.tl.b0.c32⟩) | exact ⟨L.tl.tl.b0.c30, L.tl.tl.b0.c31, L.tl.tl.b0.c32, L.tl.b0.c30, L.tl.b0.c31, L.tl.b0.c32⟩ | (have LP := L.putD (by omega) (by first | (simp; done) | (simp; omega)) (ng M) A9 (zl M) c9 (E); exact ⟨LP.tl.tl.b0.c30, LP.tl.tl.b0.c31, LP.tl.tl.b0.c32, LP.tl.b0.c30, LP.tl.b0.c31, LP.tl.b0.c32⟩)) (first | (go_at_call 69; (with_reducible refine (H1.out _ _ _ ?_ ?_ ).mono ?_); (· (refine L.getZ ?_; (repeat (first | (with_reducible exact List.mem_cons_self) | apply List.mem_cons_of_mem)))); (· (refine L.getZ ?_; (repeat (first | (with_reducible exact List.mem_cons_self) | apply List.mem_cons_of_mem)))); rintro e wh ⟨vh, rfl, iz, be⟩; replace L := (L.step be).z iz; obtain ⟨A8, c8, rfl, _⟩ := iz.form; clear be iz; (try (have x00 := L.b0.c30; have x01 := L.b0.c31; have x02 := L.b0.c32; have y00 := L.b0.fr 0; have y01 := L.b0.fr 1; have y02 := L.b0.fr 2))) | (go_at_call 14; (with_reducible refine (HM.out _ _ ?_ ?_ ).mono ?_); (· (refine L.getZ ?_; (repeat (first | (with_reducible exact List.mem_cons_self) | apply List.mem_cons_of_mem)))); (· exact L.below); rintro e wh ⟨vh, rfl, id, be⟩; obtain ⟨A9, c9, rfl, _, in9⟩ := id.form; replace L := (L.step be).n in9; clear be id in9; (try (have x00 := L.b0.c30; have x01 := L.b0.c31; have x02 := L.b0.c32; have y00 := L.b0.fr 0; have y01 := L.b0.fr 1; have y02 := L.b0.fr 2))))
  clear c00 f00 c01 f01 c02 f02 c10 c11 c12 c20 c21 c22
  go_wp2_with fail
  have LP := L.putD (by omega) (by first | (simp; done) | (simp; omega)) (ng M) A9 (zl M) c9 (E)
  have k0 := LP.b0.c30
  have k1 := LP.b0.c31
  have k2 := LP.b0.c32
  unfold put3 at k0 k1 k2
  exact bodyPost_ret (v := .tuple #[.agg #[.bool (ng M), .slice A9 (zl M) c9, .int .i64 (E)], .int .i64 R]) (by simp [results, Tryz.results24, go_sem, k0, k1, k2]) rfl ⟨_, rfl, isD_n LP.hn, LP.below⟩

end Go.Proofs.YtpgiolbnmlbjbaaGreatDoor
