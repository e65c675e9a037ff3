/- The laws' of, works; the mill's Thin. -/
import Derived.Test.YtfnklkdbieikeaaGreatDoorBaseW
import Derived.Test.YtfnklkdbieikeaaGreatDoorBaseX
import Derived.Test.YtfnklkdbieikeaaGreatDoorBaseE
namespace Go.Proofs.YtfnklkdbieikeaaGreatDoor
open Go.RowKit
set_option linter.unusedVariables false
set_option linter.unusedSimpArgs false
set_option maxRecDepth 100000
attribute [local go_sem ↓] Go.wp_at_zero Go.wp_at_succ

theorem mk_val11 {m e : Int} {z : Nat} {M : Int} (h : mkR m e = 0) (hm : m ≠ 0) (hz : tz m.natAbs = z) (ho : oddM m = M) : mkM m e = M ∧ mkE m e = e + (z : Int) := by
  unfold mkM mkE
  rw [h, if_pos rfl, if_neg hm, if_pos rfl, ho]
  refine ⟨rfl, ?_⟩
  unfold oddE
  rw [hz]
theorem small11 {m : Int} (h : m.natAbs < 4294967296) : zl m ≤ 1900 := Nat.le_trans (len_le1 h) (by omega)
theorem mk_odd11 {M : Int} {z : Nat} {m e : Int} (hm : M * 2 ^ z = m) (ho : M.natAbs % 2 = 1) (hs : m.natAbs < 4294967296) (h1 : -4000 ≤ e) (h2 : e ≤ 4000) : mkM m e = M ∧ mkE m e = e + (z : Int) := by
  have h := mk_fits (m := m) (e := e) (small11 hs) h1 h2
  have hm0 : m ≠ 0 := by
    have hM : M ≠ 0 := fun h0 => by rw [h0] at ho; exact absurd ho (by decide)
    rw [← hm]
    exact Int.mul_ne_zero hM (pow2_ne z)
  have hz : tz m.natAbs = z := by rw [← hm, abs_shl]; exact tz_odd ho z
  have ho2 : oddM m = M := by rw [← hm]; exact odd_shl ho z
  exact mk_val11 h hm0 hz ho2
theorem of_0 : mkM 0 0 = 0 ∧ mkE 0 0 = 0 := by
  have h := mk_fits (m := 0) (e := 0) (small11 (by decide)) (by decide) (by decide)
  unfold mkM mkE
  rw [h, if_pos rfl, if_pos rfl, oddM_zero]
  exact ⟨rfl, rfl⟩
theorem dv_0 : Dv 0 0 := Or.inl ⟨rfl, rfl⟩
theorem zl_small {m : Int} (h : m.natAbs < 4294967296) : zl m ≤ 6 := Nat.le_trans (len_le1 h) (by omega)
theorem zl0 : zl 0 ≤ 6 := zl_small (by decide)
theorem mk_one (j : Nat) (hj : j ≤ 100) : mkM 1 (-(j : Int)) = 1 ∧ mkE 1 (-(j : Int)) = -(j : Int) ∧ mkR 1 (-(j : Int)) = 0 := by
  have h := mk_odd11 (M := 1) (z := 0) (m := 1) (e := -(j : Int)) (by decide) (by decide) (by decide) (by omega) (by omega)
  exact ⟨h.1, by rw [h.2]; omega, mk_fits (small11 (by decide)) (by omega) (by omega)⟩
theorem plainI4 (N0 N1 N2 N3 : Int) : Plain #[.int .i64 N0, .int .i64 N1, .int .i64 N2, .int .i64 N3] := fun j x => by
  match j with
  | 0 => simp
  | 1 => simp
  | 2 => simp
  | 3 => simp
  | j + 4 => simp
/-- A row of four integers. -/
def RetWk (w : World) (en : Ending) (w' : World) : Prop := ∃ g N0 N1 N2 N3, en = .returned (.slice (some ⟨g, 0, none⟩) 4 4) ∧ Var w' g 3 #[.int .i64 N0, .int .i64 N1, .int .i64 N2, .int .i64 N3] ∧ (∀ N ∈ [N0, N1, N2, N3], -9223372036854775808 ≤ N ∧ N ≤ 9223372036854775807) ∧ Below w.heap.size w w'
theorem row4_cell {w : World} {g : Nat} {N0 N1 N2 N3 : Int} {t : TypeId} (h : Var w g t #[.int .i64 N0, .int .i64 N1, .int .i64 N2, .int .i64 N3]) (hN : ∀ N ∈ [N0, N1, N2, N3], -9223372036854775808 ≤ N ∧ N ≤ 9223372036854775807) (j : Nat) (hj : j < 4) : ∃ N : Int, w.cell? ⟨g, j, none⟩ = some (.int .i64 N) ∧ -9223372036854775808 ≤ N ∧ N ≤ 9223372036854775807 := by
  rcases (show j = 0 ∨ j = 1 ∨ j = 2 ∨ j = 3 by omega) with rfl | rfl | rfl | rfl
  · exact ⟨N0, h.cell 0, hN _ (by simp)⟩
  · exact ⟨N1, h.cell 1, hN _ (by simp)⟩
  · exact ⟨N2, h.cell 2, hN _ (by simp)⟩
  · exact ⟨N3, h.cell 3, hN _ (by simp)⟩
/-- What Thin makes of the upper end: the lesser one of it and a number above the lower end. -/
def thM (m e n f : Int) (j : Nat) : Int := mkM (addS m e 1 (-(j : Int))) (min e (-(j : Int)))
def thE (m e n f : Int) (j : Nat) : Int := mkE (addS m e 1 (-(j : Int))) (min e (-(j : Int)))
def thN (m e n f : Int) (j : Nat) : Int := if dcm (thM m e n f j) (thE m e n f j) n f < 0 then thM m e n f j else n
def thF (m e n f : Int) (j : Nat) : Int := if dcm (thM m e n f j) (thE m e n f j) n f < 0 then thE m e n f j else f
theorem thin_ok {m e n f : Int} {j : Nat} (hj : j ≤ 100) (lm : zl m ≤ 6) (ln : zl n ≤ 6) (he : -60 ≤ e ∧ e ≤ 252) (hf : -60 ≤ f ∧ f ≤ 252) (hd : dcm m e n f ≤ 0) (hv : Dv n f) : mkR (addS m e 1 (-(j : Int))) (min e (-(j : Int))) = 0 ∧ zl (thM m e n f j) ≤ 25 ∧ (-3000 ≤ thE m e n f j ∧ thE m e n f j ≤ 3000) ∧ zl (thN m e n f j) ≤ 25 ∧ (-3000 ≤ thF m e n f j ∧ thF m e n f j ≤ 3000) ∧ dcm m e (thN m e n f j) (thF m e n f j) ≤ 0 ∧ dq (thN m e n f j) (thF m e n f j) ≤ dq n f ∧ Dv (thN m e n f j) (thF m e n f j) := by
  have z1 : zl 1 ≤ 6 := zl_small (by decide)
  have z0 := zl_addS m e 1 (-(j : Int)) 252 (by omega) (by omega)
  have r0 := mk_fits (m := addS m e 1 (-(j : Int))) (e := min e (-(j : Int))) (by omega) (by omega) (by omega)
  have z2 := zl_mk (addS m e 1 (-(j : Int))) (min e (-(j : Int)))
  have b1 := mkE_le (m := addS m e 1 (-(j : Int))) (e := min e (-(j : Int))) (K := 252) (by omega) (by omega)
  have e1 : zl (thM m e n f j) ≤ 25 := by unfold thM; omega
  have e2 : -3000 ≤ thE m e n f j ∧ thE m e n f j ≤ 3000 := by unfold thE; omega
  have d1 : dq (thM m e n f j) (thE m e n f j) = dq m e + dq 1 (-(j : Int)) := (dq_mk r0).trans (dq_add _ _ _ _)
  have d2 : dq m e ≤ dq (thM m e n f j) (thE m e n f j) := by
    rw [d1]
    have h := (Rat.add_le_add_left (c := dq m e)).2 (Rat.le_of_lt (dq_pos (-(j : Int))))
    rwa [Rat.add_zero] at h
  have v1 : Dv (thM m e n f j) (thE m e n f j) := mk_ok r0
  refine ⟨r0, e1, e2, ?_⟩
  unfold thN thF
  split
  · rename_i hlt
    exact ⟨e1, e2, (dcm_le _ _ _ _).2 d2, Rat.le_of_lt ((dcm_lt _ _ _ _).1 hlt), v1⟩
  · exact ⟨by omega, by omega, hd, Rat.le_refl, hv⟩

set_option maxHeartbeats 8000000 in
theorem thin_any (m e n f : Int) (j : Nat) (hj : j ≤ 100) (vx : Value) (w : World) (hx : IsI w vx m e n f) (lm : zl m ≤ 6) (ln : zl n ≤ 6) (he : -60 ≤ e ∧ e ≤ 252) (hf : -60 ≤ f ∧ f ≤ 252) (hd : dcm m e n f ≤ 0) (hv : Dv n f) :
    Calls Tryz.prog 18 #[vx, .int .i64 (j : Int)] w (RetI6 w m e (thN m e n f j) (thF m e n f j)) := by
  obtain ⟨A, c, B, d, rfl, hn1, hn2⟩ := hx.form
  have L0 := ((Lq.mk0 w).n hn2).n hn1
  obtain ⟨r0, zM, bE, _⟩ := thin_ok (j := j) hj lm ln he hf hd hv
  obtain ⟨o1, o2, o3⟩ := mk_one j hj
  have z1 : zl 1 ≤ 6 := zl_small (by decide)
  have g1 := fun W => rzof_any 1 W (by omega) (by omega)
  have g2 := fun v W h => rmake8_any 1 (-(j : Int)) v W h (by omega)
  rw [o1, o2, o3] at g2
  have g3 := fun v u W h1 h2 => radd8_any m e 1 (-(j : Int)) v u W h1 h2 (by omega) (by omega) (by omega) (by omega)
  rw [r0] at g3
  unfold thN thF
  unfold thM thE at *
  obtain ⟨M, hM⟩ : ∃ z, mkM (addS m e 1 (-(j : Int))) (min e (-(j : Int))) = z := ⟨_, rfl⟩
  obtain ⟨E, hE⟩ : ∃ z, mkE (addS m e 1 (-(j : Int))) (min e (-(j : Int))) = z := ⟨_, rfl⟩
  rw [hM, hE] at g3 ⊢
  rw [hM] at zM
  rw [hE] at bE
  have g4 := fun v u W h1 h2 => rcmp8_any M E n f v u W h1 h2 (by omega) (by omega) (by omega) (by omega)
  obtain ⟨x, hx9⟩ : ∃ z, dcm M E n f = z := ⟨_, rfl⟩
  rw [hx9]
  unfold dcm at hx9
  rw [hx9] at g4
  have hw : IntKind.i64.wrap (-(j : Int)) = -(j : Int) := by rw [IntKind.wrap_i64]; omega
  obtain ⟨jj, hjj⟩ : ∃ z, -(j : Int) = z := ⟨_, rfl⟩
  rw [hjj] at g2 g3
  replace hw : IntKind.i64.wrap (-(j : Int)) = jj := hw.trans hjj
  have G1 := Lib.hid g1
  have G2 := Lib.hid g2
  have G3 := Lib.hid g3
  have G4 := Lib.hid g4
  clear g1 g2 g3 g4 hM hE hx9 r0 zM bE o1 o2 o3 z1 hx hn1 hn2 lm ln he hf hd hv hj hjj
  by_cases q : x < 0
  · rw [if_pos q, if_pos q]
    have b1 : decide (x < 0) = true := decide_eq_true q
    clear q
    go_enter Tryz.func18, Tryz.ntmps18
    go_wp2_with fail
    have L := ((L0.varI (w.heap.size) (by simp) (ng m) A (zl m) c e (ng n) B (zl n) d f).varI (w.heap.size + 1) (by simp) false none 0 0 0 false none 0 0 0)
    have c00 := L.b0.c60
    have c01 := L.b0.c61
    have c02 := L.b0.c62
    have c03 := L.b0.c63
    have c04 := L.b0.c64
    have c05 := L.b0.c65
    have c10 := L.tl.b0.c60
    have c11 := L.tl.b0.c61
    have c12 := L.tl.b0.c62
    have c13 := L.tl.b0.c63
    have c14 := L.tl.b0.c64
    have c15 := L.tl.b0.c65
    (try go_wp2_with fail)
    refine (G1.out _).mono ?_
    rintro e w1 ⟨vv, rfl, iz, be⟩
    clear c00 c01 c02 c03 c04 c05 c10 c11 c12 c13 c14 c15
    replace L := (L.step be).z iz
    clear be iz
    have c00 := L.b0.c60
    have c01 := L.b0.c61
    have c02 := L.b0.c62
    have c03 := L.b0.c63
    have c04 := L.b0.c64
    have c05 := L.b0.c65
    have c10 := L.tl.b0.c60
    have c11 := L.tl.b0.c61
    have c12 := L.tl.b0.c62
    have c13 := L.tl.b0.c63
    have c14 := L.tl.b0.c64
    have c15 := L.tl.b0.c65
    (try go_wp2_with fail)
    refine (G2.out _ _ (L.getZ (by simp))).mono ?_
    rintro e w2 ⟨vv, rfl, id, be⟩
    clear c00 c01 c02 c03 c04 c05 c10 c11 c12 c13 c14 c15
    obtain ⟨A7, c7, rfl, _, in9⟩ := id.form
    replace L := (L.step be).n in9
    clear be id in9
    have hl7 := L.b0.lt
    replace L := L.varD w2.heap.size rfl (ng 1) A7 (zl 1) c7 jj
    have c00 := L.b0.c30
    have c01 := L.b0.c31
    have c02 := L.b0.c32
    have c20 := L.tl.tl.b0.c60
    have c21 := L.tl.tl.b0.c61
    have c22 := L.tl.tl.b0.c62
    have c23 := L.tl.tl.b0.c63
    have c24 := L.tl.tl.b0.c64
    have c25 := L.tl.tl.b0.c65
    go_wp2_with fail
    obtain ⟨gs, hg⟩ : ∃ g, w2.heap.size = g := ⟨_, rfl⟩
    rw [hg] at L hl7 c00 c01 c02 ⊢
    clear hg
    refine (G3.out _ _ _ (isD_n (m := m) (e := e) (s := .slice A (zl m) c) (L.getN (v := .slice A (zl m) c) (x := (m).natAbs) (by simp))) (isD_n (m := 1) (e := jj) (s := .slice A7 (zl 1) c7) (L.getN (by simp)))).mono ?_
    rintro e w3 ⟨vv, rfl, id, be⟩
    clear c00 c01 c02 c20 c21 c22 c23 c24 c25
    obtain ⟨A9, c9, rfl, _, in9⟩ := id.form
    replace L := (L.step be).n in9
    clear be id in9
    have hl9 := L.b0.lt
    replace L := L.varD w3.heap.size rfl (ng M) A9 (zl M) c9 E
    have c00 := L.b0.c30
    have c01 := L.b0.c31
    have c02 := L.b0.c32
    have c30 := L.tl.tl.tl.b0.c60
    have c31 := L.tl.tl.tl.b0.c61
    have c32 := L.tl.tl.tl.b0.c62
    have c33 := L.tl.tl.tl.b0.c63
    have c34 := L.tl.tl.tl.b0.c64
    have c35 := L.tl.tl.tl.b0.c65
    go_wp2_with fail
    obtain ⟨gh, hg⟩ : ∃ g, w3.heap.size = g := ⟨_, rfl⟩
    rw [hg] at L hl9 c00 c01 c02 ⊢
    clear hg
    refine (G4.out _ _ _ (isD_n (m := M) (e := E) (s := .slice A9 (zl M) c9) (L.getN (by simp))) (isD_n (m := n) (e := f) (s := .slice B (zl n) d) (L.getN (v := .slice B (zl n) d) (x := (n).natAbs) (by simp)))).mono ?_
    rintro e w4 ⟨rfl, be⟩
    clear c00 c01 c02 c30 c31 c32 c33 c34 c35
    replace L := L.step be
    clear be
    have hgs : w.heap.size + 1 < gs := by omega
    have hgh : gs < gh := by omega
    have c00 := L.b0.c30
    have c01 := L.b0.c31
    have c02 := L.b0.c32
    have P := L.pick [(w.heap.size, 31, #[.bool (ng m), .slice A (zl m) c, .int .i64 e, .bool (ng n), .slice B (zl n) d, .int .i64 f]), (w.heap.size + 1, 31, #[.bool false, .slice none 0 0, .int .i64 0, .bool false, .slice none 0 0, .int .i64 0])] (by simp)
    have x0 := P.b0.c60
    have y0 := P.b0.fr 0
    have u0 := P.tl.b0.c60
    have v0 := P.tl.b0.fr 0
    have x1 := P.b0.c61
    have y1 := P.b0.fr 1
    have u1 := P.tl.b0.c61
    have v1 := P.tl.b0.fr 1
    have x2 := P.b0.c62
    have y2 := P.b0.fr 2
    have u2 := P.tl.b0.c62
    have v2 := P.tl.b0.fr 2
    have x3 := P.b0.c63
    have y3 := P.b0.fr 3
    have u3 := P.tl.b0.c63
    have v3 := P.tl.b0.fr 3
    have x4 := P.b0.c64
    have y4 := P.b0.fr 4
    have u4 := P.tl.b0.c64
    have v4 := P.tl.b0.fr 4
    have x5 := P.b0.c65
    have y5 := P.b0.fr 5
    have u5 := P.tl.b0.c65
    have v5 := P.tl.b0.fr 5
    have LS : Lq _ _ _ _ _ ((w.heap.size, 31, #[.bool (ng m), .slice A (zl m) c, .int .i64 e, .bool (ng M), .slice A9 (zl M) c9, .int .i64 E]) :: _) := ((P.set (Nat.le_refl _) (by simp) 3 (.bool (ng M)) (by intro x e; cases e)).set (Nat.le_refl _) (by simp) 4 (.slice A9 (zl M) c9) (by intro x e; cases e)).set (Nat.le_refl _) (by simp) 5 (.int .i64 E) (by intro x e; cases e)
    have s0 := LS.b0.c60
    have t0 := LS.tl.b0.c60
    have p0 := LS.tl.b0.fr 0
    have s1 := LS.b0.c61
    have t1 := LS.tl.b0.c61
    have p1 := LS.tl.b0.fr 1
    have s2 := LS.b0.c62
    have t2 := LS.tl.b0.c62
    have p2 := LS.tl.b0.fr 2
    have s3 := LS.b0.c63
    have t3 := LS.tl.b0.c63
    have p3 := LS.tl.b0.fr 3
    have s4 := LS.b0.c64
    have t4 := LS.tl.b0.c64
    have p4 := LS.tl.b0.fr 4
    have s5 := LS.b0.c65
    have t5 := LS.tl.b0.c65
    have p5 := LS.tl.b0.fr 5
    go_wp2_with fail
    clear s0 t0 p0 x0 y0 u0 v0 s1 t1 p1 x1 y1 u1 v1 s2 t2 p2 x2 y2 u2 v2 s3 t3 p3 x3 y3 u3 v3 s4 t4 p4 x4 y4 u4 v4 s5 t5 p5 x5 y5 u5 v5
    replace L := LS.swap
    clear LS P
    clear c00 c01 c02
    have LP := L.putI (by omega) (by first | (simp; done) | (simp; omega)) (ng m) A (zl m) c e (ng M) A9 (zl M) c9 E
    have k0 := LP.b0.c60
    have k1 := LP.b0.c61
    have k2 := LP.b0.c62
    have k3 := LP.b0.c63
    have k4 := LP.b0.c64
    have k5 := LP.b0.c65
    unfold put6 at k0 k1 k2 k3 k4 k5
    exact bodyPost_ret (v := .agg #[.bool (ng m), .slice A (zl m) c, .int .i64 e, .bool (ng M), .slice A9 (zl M) c9, .int .i64 E]) (by simp [results, Tryz.results18, go_sem, k0, k1, k2, k3, k4, k5]) rfl ⟨_, rfl, isI_n (LP.getN (by simp)) (LP.getN (by simp)), LP.below⟩
  · rw [if_neg q, if_neg q]
    have b1 : decide (x < 0) = false := decide_eq_false q
    clear q
    go_enter Tryz.func18, Tryz.ntmps18
    go_wp2_with fail
    have L := ((L0.varI (w.heap.size) (by simp) (ng m) A (zl m) c e (ng n) B (zl n) d f).varI (w.heap.size + 1) (by simp) false none 0 0 0 false none 0 0 0)
    have c00 := L.b0.c60
    have c01 := L.b0.c61
    have c02 := L.b0.c62
    have c03 := L.b0.c63
    have c04 := L.b0.c64
    have c05 := L.b0.c65
    have c10 := L.tl.b0.c60
    have c11 := L.tl.b0.c61
    have c12 := L.tl.b0.c62
    have c13 := L.tl.b0.c63
    have c14 := L.tl.b0.c64
    have c15 := L.tl.b0.c65
    (try go_wp2_with fail)
    refine (G1.out _).mono ?_
    rintro e w1 ⟨vv, rfl, iz, be⟩
    clear c00 c01 c02 c03 c04 c05 c10 c11 c12 c13 c14 c15
    replace L := (L.step be).z iz
    clear be iz
    have c00 := L.b0.c60
    have c01 := L.b0.c61
    have c02 := L.b0.c62
    have c03 := L.b0.c63
    have c04 := L.b0.c64
    have c05 := L.b0.c65
    have c10 := L.tl.b0.c60
    have c11 := L.tl.b0.c61
    have c12 := L.tl.b0.c62
    have c13 := L.tl.b0.c63
    have c14 := L.tl.b0.c64
    have c15 := L.tl.b0.c65
    (try go_wp2_with fail)
    refine (G2.out _ _ (L.getZ (by simp))).mono ?_
    rintro e w2 ⟨vv, rfl, id, be⟩
    clear c00 c01 c02 c03 c04 c05 c10 c11 c12 c13 c14 c15
    obtain ⟨A7, c7, rfl, _, in9⟩ := id.form
    replace L := (L.step be).n in9
    clear be id in9
    have hl7 := L.b0.lt
    replace L := L.varD w2.heap.size rfl (ng 1) A7 (zl 1) c7 jj
    have c00 := L.b0.c30
    have c01 := L.b0.c31
    have c02 := L.b0.c32
    have c20 := L.tl.tl.b0.c60
    have c21 := L.tl.tl.b0.c61
    have c22 := L.tl.tl.b0.c62
    have c23 := L.tl.tl.b0.c63
    have c24 := L.tl.tl.b0.c64
    have c25 := L.tl.tl.b0.c65
    go_wp2_with fail
    obtain ⟨gs, hg⟩ : ∃ g, w2.heap.size = g := ⟨_, rfl⟩
    rw [hg] at L hl7 c00 c01 c02 ⊢
    clear hg
    refine (G3.out _ _ _ (isD_n (m := m) (e := e) (s := .slice A (zl m) c) (L.getN (v := .slice A (zl m) c) (x := (m).natAbs) (by simp))) (isD_n (m := 1) (e := jj) (s := .slice A7 (zl 1) c7) (L.getN (by simp)))).mono ?_
    rintro e w3 ⟨vv, rfl, id, be⟩
    clear c00 c01 c02 c20 c21 c22 c23 c24 c25
    obtain ⟨A9, c9, rfl, _, in9⟩ := id.form
    replace L := (L.step be).n in9
    clear be id in9
    have hl9 := L.b0.lt
    replace L := L.varD w3.heap.size rfl (ng M) A9 (zl M) c9 E
    have c00 := L.b0.c30
    have c01 := L.b0.c31
    have c02 := L.b0.c32
    have c30 := L.tl.tl.tl.b0.c60
    have c31 := L.tl.tl.tl.b0.c61
    have c32 := L.tl.tl.tl.b0.c62
    have c33 := L.tl.tl.tl.b0.c63
    have c34 := L.tl.tl.tl.b0.c64
    have c35 := L.tl.tl.tl.b0.c65
    go_wp2_with fail
    obtain ⟨gh, hg⟩ : ∃ g, w3.heap.size = g := ⟨_, rfl⟩
    rw [hg] at L hl9 c00 c01 c02 ⊢
    clear hg
    refine (G4.out _ _ _ (isD_n (m := M) (e := E) (s := .slice A9 (zl M) c9) (L.getN (by simp))) (isD_n (m := n) (e := f) (s := .slice B (zl n) d) (L.getN (v := .slice B (zl n) d) (x := (n).natAbs) (by simp)))).mono ?_
    rintro e w4 ⟨rfl, be⟩
    clear c00 c01 c02 c30 c31 c32 c33 c34 c35
    replace L := L.step be
    clear be
    have hgs : w.heap.size + 1 < gs := by omega
    have hgh : gs < gh := by omega
    replace L := L.pick [(w.heap.size + 1, 31, #[.bool false, .slice none 0 0, .int .i64 0, .bool false, .slice none 0 0, .int .i64 0]), (w.heap.size, 31, #[.bool (ng m), .slice A (zl m) c, .int .i64 e, .bool (ng n), .slice B (zl n) d, .int .i64 f])] (by simp)
    have c00 := L.b0.c60
    have f00 := L.b0.fr 0
    have c01 := L.b0.c61
    have f01 := L.b0.fr 1
    have c02 := L.b0.c62
    have f02 := L.b0.fr 2
    have c03 := L.b0.c63
    have f03 := L.b0.fr 3
    have c04 := L.b0.c64
    have f04 := L.b0.fr 4
    have c05 := L.b0.c65
    have f05 := L.b0.fr 5
    have c10 := L.tl.b0.c60
    have c11 := L.tl.b0.c61
    have c12 := L.tl.b0.c62
    have c13 := L.tl.b0.c63
    have c14 := L.tl.b0.c64
    have c15 := L.tl.b0.c65
    go_wp2_with fail
    have LP := L.putI (by omega) (by first | (simp; done) | (simp; omega)) (ng m) A (zl m) c e (ng n) B (zl n) d f
    have k0 := LP.b0.c60
    have k1 := LP.b0.c61
    have k2 := LP.b0.c62
    have k3 := LP.b0.c63
    have k4 := LP.b0.c64
    have k5 := LP.b0.c65
    unfold put6 at k0 k1 k2 k3 k4 k5
    exact bodyPost_ret (v := .agg #[.bool (ng m), .slice A (zl m) c, .int .i64 e, .bool (ng n), .slice B (zl n) d, .int .i64 f]) (by simp [results, Tryz.results18, go_sem, k0, k1, k2, k3, k4, k5]) rfl ⟨_, rfl, isI_n (LP.getN (by simp)) (LP.getN (by simp)), LP.below⟩

end Go.Proofs.YtfnklkdbieikeaaGreatDoor
