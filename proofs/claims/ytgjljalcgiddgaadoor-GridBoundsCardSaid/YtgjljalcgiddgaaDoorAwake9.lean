/- The sanity check of layer 9: the examples of chapter 9 hold. -/
import Derived.Test.YtgjljalcgiddgaaDoorGrP
import Derived.Deep.RegionHeld3
import Derived.Deep.DrawnRows
namespace Go.Proofs.YtgjljalcgiddgaaDoor
open Go.RowKit
set_option linter.unusedVariables false
set_option linter.unusedSimpArgs false
set_option maxRecDepth 100000
attribute [local go_sem ↓] Go.wp_at_zero Go.wp_at_succ

theorem mk_val9 {m e : Int} {z : Nat} {M : Int} (h : mkR m e = 0) (hm : m ≠ 0) (hz : tz m.natAbs = z) (ho : oddM m = M) : mkM m e = M ∧ mkE m e = e + (z : Int) := by
  unfold mkM mkE
  rw [h, if_pos rfl, if_neg hm, if_pos rfl, ho]
  refine ⟨rfl, ?_⟩
  unfold oddE
  rw [hz]
theorem small9 {m : Int} (h : m.natAbs < 4294967296) : zl m ≤ 1900 := Nat.le_trans (len_le1 h) (by omega)
/-- What Make returns of an odd number times a power of two. -/
theorem mk_odd {M : Int} {z : Nat} {m e : Int} (hm : M * 2 ^ z = m) (ho : M.natAbs % 2 = 1) (hs : m.natAbs < 4294967296) (h1 : -4000 ≤ e) (h2 : e ≤ 4000) : mkR m e = 0 ∧ mkM m e = M ∧ mkE m e = e + (z : Int) := by
  have h := mk_fits (m := m) (e := e) (small9 hs) h1 h2
  have hM : M ≠ 0 := fun h0 => by rw [h0] at ho; exact absurd ho (by decide)
  have hm0 : m ≠ 0 := by
    rw [← hm]
    exact Int.mul_ne_zero hM (pow2_ne z)
  have hz : tz m.natAbs = z := by rw [← hm, abs_shl]; exact tz_odd ho z
  have ho2 : oddM m = M := by rw [← hm]; exact odd_shl ho z
  obtain ⟨a, b⟩ := mk_val9 h hm0 hz ho2
  exact ⟨h, a, b⟩
theorem mk_0 {e : Int} (h1 : -4000 ≤ e) (h2 : e ≤ 4000) : mkR 0 e = 0 ∧ mkM 0 e = 0 ∧ mkE 0 e = 0 := by
  have h := mk_fits (m := 0) (e := e) (small9 (by decide)) h1 h2
  unfold mkM mkE
  rw [h, if_pos rfl, if_pos rfl, oddM_zero]
  exact ⟨rfl, rfl, rfl⟩
theorem cut_a : cutQ (dq (-1) (-2)) 1 = -1 := by
  have h := cut_eq (-1 * 2 ^ (-2 : Int).toNat) (2 ^ (-(-2 : Int)).toNat) (by decide) 1
  exact h.trans (by decide)
theorem cut_b : -(cutQ (-(dq (-1) (-2))) 1) = 0 := by
  have h := cut_eq (1 * 2 ^ (-2 : Int).toNat) (2 ^ (-(-2 : Int)).toNat) (by decide) 1
  have h2 : cutQ (dq 1 (-2)) 1 = 0 := h.trans (by decide)
  rw [← dq_neg, show -(-1 : Int) = 1 from rfl, h2]; rfl
theorem cut_c : (cutQ (dq 3 (-2)) (1 + 1) + 1) / 2 = 2 := by
  have h := cut_eq (3 * 2 ^ (-2 : Int).toNat) (2 ^ (-(-2 : Int)).toNat) (by decide) 2
  have h2 : cutQ (dq 3 (-2)) 2 = 3 := h.trans (by decide)
  rw [show (1 : Int) + 1 = 2 from rfl, h2]; rfl

set_option maxHeartbeats 2000000 in
theorem quarter_any (n : Int) (w : World) (h1 : -1000 ≤ n) (h2 : n ≤ 1000) :
    Calls Tryd.prog 30 #[.int .i64 n] w (RetD8 w (mkM n (-2)) (mkE n (-2))) := by
  have HO := Lib.hid (fun W => rzof_any n W (by omega) (by omega))
  have hl : zl n ≤ 1000000 := Nat.le_trans (len_le1 (x := n.natAbs) (by omega)) (by omega)
  have hm := fun v W h => rmake8_any n (-2) v W h hl
  generalize mkM n (-2) = M at *
  generalize mkE n (-2) = E at *
  generalize mkR n (-2) = R at *
  have HM := Lib.hid hm
  clear hm h1 h2 hl
  go_enter Tryd.func30, Tryd.ntmps30
  go_wp2_with fail
  have L := ((Lq.mk0 w).varD (w.heap.size) (by simp) false none 0 0 0)
  have c00 := L.b0.c30
  have f00 := L.b0.fr 0
  have c01 := L.b0.c31
  have f01 := L.b0.fr 1
  have c02 := L.b0.c32
  have f02 := L.b0.fr 2
  (try go_wp2_with fail)
  refine (HO.out _).mono ?_
  rintro e w1 ⟨v1, rfl, iz, be⟩
  clear c00 f00 c01 f01 c02 f02
  replace L := (L.step be).z iz
  clear be iz
  have c00 := L.b0.c30
  have f00 := L.b0.fr 0
  have c01 := L.b0.c31
  have f01 := L.b0.fr 1
  have c02 := L.b0.c32
  have f02 := L.b0.fr 2
  (try go_wp2_with fail)
  refine (HM.out _ _ (L.getZ (by simp))).mono ?_
  rintro e w2 ⟨v2, rfl, id, be⟩
  clear c00 f00 c01 f01 c02 f02
  obtain ⟨A9, c9, rfl, _, in9⟩ := id.form
  replace L := (L.step be).n in9
  clear be in9 id
  have c00 := L.b0.c30
  have f00 := L.b0.fr 0
  have c01 := L.b0.c31
  have f01 := L.b0.fr 1
  have c02 := L.b0.c32
  have f02 := L.b0.fr 2
  have hlt := L.b0.lt
  have LP0 := L.putD (by omega) (by first | (simp; done) | (simp; omega)) (ng M) A9 (zl M) c9 E
  have LP := LP0.varD _ rfl (ng M) A9 (zl M) c9 E
  have k0 := LP.tl.b0.c30
  have k1 := LP.tl.b0.c31
  have k2 := LP.tl.b0.c32
  unfold put3 at k0 k1 k2
  replace L := L.varD w2.heap.size rfl (ng M) A9 (zl M) c9 E
  have y0 := L.b0.c30
  have y1 := L.b0.c31
  have y2 := L.b0.c32
  go_wp2_with fail
  exact bodyPost_ret (v := .agg #[.bool (ng M), .slice A9 (zl M) c9, .int .i64 E]) (by simp [results, Tryd.results30, go_sem, k0, k1, k2]) rfl ⟨_, rfl, isD_n LP.hn, LP.below⟩
set_option maxHeartbeats 4000000 in
theorem awake9_any (w : World) (hT : Tab w) :
    Calls Tryd.prog 7 #[] w (RetB w true) := by
  have q1 := fun W => quarter_any (-1) W (by omega) (by omega)
  have m1 := mk_odd (M := -1) (z := 0) (m := -1) (e := -2) (by decide) (by decide) (by decide) (by omega) (by omega)
  rw [m1.2.1, m1.2.2, show (-2 : Int) + ((0 : Nat) : Int) = -2 from rfl] at q1
  have q3 := fun W => quarter_any 3 W (by omega) (by omega)
  have m3 := mk_odd (M := 3) (z := 0) (m := 3) (e := -2) (by decide) (by decide) (by decide) (by omega) (by omega)
  rw [m3.2.1, m3.2.2, show (-2 : Int) + ((0 : Nat) : Int) = -2 from rfl] at q3
  have q2 := fun W => quarter_any (-2) W (by omega) (by omega)
  have m2 := mk_odd (M := -1) (z := 1) (m := -2) (e := -2) (by decide) (by decide) (by decide) (by omega) (by omega)
  rw [m2.2.1, m2.2.2, show (-2 : Int) + ((1 : Nat) : Int) = -1 from rfl] at q2
  have q0 := fun W => quarter_any 0 W (by omega) (by omega)
  have m0 := mk_0 (e := -2) (by omega) (by omega)
  rw [m0.2.1, m0.2.2] at q0
  have q4 := fun W => quarter_any 4 W (by omega) (by omega)
  have m4 := mk_odd (M := 1) (z := 2) (m := 4) (e := -2) (by decide) (by decide) (by decide) (by omega) (by omega)
  rw [m4.2.1, m4.2.2, show (-2 : Int) + ((2 : Nat) : Int) = 0 from rfl] at q4
  have a1 := fun v W h (hW : Below w.heap.size w W) => gfloor_any (-1) (-2) 1 v W h (Nat.le_trans (len_le1 (by decide)) (by omega)) (by omega) (by omega) (by omega) (hT.mono hW)
  have n1 := mk_odd (M := -1) (z := 0) (m := -1) (e := -1) (by decide) (by decide) (by decide) (by omega) (by omega)
  rw [cut_a, (g_yes (p := 1) rfl (-1)).1, (g_yes (p := 1) rfl (-1)).2.1, (g_yes (p := 1) rfl (-1)).2.2, n1.1, n1.2.1, n1.2.2, show (-1 : Int) + ((0 : Nat) : Int) = -1 from rfl] at a1
  have a2 := fun v W h (hW : Below w.heap.size w W) => gceil_any (-1) (-2) 1 v W h (Nat.le_trans (len_le1 (by decide)) (by omega)) (by omega) (by omega) (by omega) (hT.mono hW)
  have n0 := mk_0 (e := -1) (by omega) (by omega)
  rw [cut_b, (g_yes (p := 1) rfl 0).1, (g_yes (p := 1) rfl 0).2.1, (g_yes (p := 1) rfl 0).2.2, n0.1, n0.2.1, n0.2.2] at a2
  have a3 := fun v W h (hW : Below w.heap.size w W) => gnear_any 3 (-2) 1 v W h (Nat.le_trans (len_le1 (by decide)) (by omega)) (by omega) (by omega) (by omega) (hT.mono hW)
  have n2 := mk_odd (M := 1) (z := 1) (m := 2) (e := -1) (by decide) (by decide) (by decide) (by omega) (by omega)
  rw [cut_c, (g_yes (p := 1) rfl 2).1, (g_yes (p := 1) rfl 2).2.1, (g_yes (p := 1) rfl 2).2.2, n2.1, n2.2.1, n2.2.2, show (-1 : Int) + ((1 : Nat) : Int) = 0 from rfl] at a3
  have s1 := fun v u W h1 h2 => same8_any (-1) (-1) (-1) (-1) v u W h1 h2
  have s2 := fun v u W h1 h2 => same8_any 0 0 0 0 v u W h1 h2
  have s3 := fun v u W h1 h2 => same8_any 1 0 1 0 v u W h1 h2
  rw [show (decide ((-1 : Int) = -1) && decide ((-1 : Int) = -1)) = true from rfl] at s1
  rw [show (decide ((0 : Int) = 0) && decide ((0 : Int) = 0)) = true from rfl] at s2
  rw [show (decide ((0 : Int) = 0) && decide ((1 : Int) = 1)) = true from rfl] at s3
  have Q1 := Lib.hid q1
  have Q3 := Lib.hid q3
  have Q2 := Lib.hid q2
  have Q0 := Lib.hid q0
  have Q4 := Lib.hid q4
  have A1' := Lib.hid a1
  have A2' := Lib.hid a2
  have A3' := Lib.hid a3
  have S1 := Lib.hid s1
  have S2 := Lib.hid s2
  have S3 := Lib.hid s3
  clear q1 q2 q3 q0 q4 m1 m2 m3 m0 m4 a1 a2 a3 n0 n1 n2 s1 s2 s3 hT
  go_enter Tryd.func7, Tryd.ntmps7
  go_wp2_with fail
  have L := Lq.mk0 w
  refine (Q1.out _).mono ?_
  rintro e w1 ⟨v1, rfl, id, be⟩
  obtain ⟨A1, c1, rfl, _, in9⟩ := id.form
  replace L := (L.step be).n in9
  clear be id in9
  (try go_wp2_with fail)
  refine (A1'.out _ _ (isD_n (s := .slice A1 (zl (-1)) c1) L.hn) L.below).mono ?_
  rintro e w2 ⟨v2, rfl, id, be⟩
  obtain ⟨A2, c2, rfl, _, in9⟩ := id.form
  replace L := (L.step be).n in9
  clear be id in9
  replace L := L.varD w2.heap.size rfl (ng (-1)) A2 (zl (-1)) c2 (-1)
  go_wp2_with fail
  obtain ⟨g1, hg⟩ : ∃ g, w2.heap.size = g := ⟨_, rfl⟩
  rw [hg] at L ⊢
  clear hg
  refine (Q1.out _).mono ?_
  rintro e w3 ⟨v3, rfl, id, be⟩
  obtain ⟨A3, c3, rfl, _, in9⟩ := id.form
  replace L := (L.step be).n in9
  clear be id in9
  (try go_wp2_with fail)
  refine (A2'.out _ _ (isD_n (s := .slice A3 (zl (-1)) c3) L.hn) L.below).mono ?_
  rintro e w4 ⟨v4, rfl, id, be⟩
  obtain ⟨A4, c4, rfl, _, in9⟩ := id.form
  replace L := (L.step be).n in9
  clear be id in9
  replace L := L.varD w4.heap.size rfl (ng 0) A4 (zl 0) c4 0
  go_wp2_with fail
  obtain ⟨g2, hg⟩ : ∃ g, w4.heap.size = g := ⟨_, rfl⟩
  rw [hg] at L ⊢
  clear hg
  refine (Q3.out _).mono ?_
  rintro e w5 ⟨v5, rfl, id, be⟩
  obtain ⟨A5, c5, rfl, _, in9⟩ := id.form
  replace L := (L.step be).n in9
  clear be id in9
  (try go_wp2_with fail)
  refine (A3'.out _ _ (isD_n (s := .slice A5 (zl 3) c5) L.hn) L.below).mono ?_
  rintro e w6 ⟨v6, rfl, id, be⟩
  obtain ⟨A6, c6, rfl, _, in9⟩ := id.form
  replace L := (L.step be).n in9
  clear be id in9
  replace L := L.varD w6.heap.size rfl (ng 1) A6 (zl 1) c6 0
  go_wp2_with fail
  obtain ⟨g3, hg⟩ : ∃ g, w6.heap.size = g := ⟨_, rfl⟩
  rw [hg] at L ⊢
  clear hg
  replace L := L.drew
  have c00 := L.b0.c30
  have c01 := L.b0.c31
  have c02 := L.b0.c32
  have c10 := L.tl.b0.c30
  have c11 := L.tl.b0.c31
  have c12 := L.tl.b0.c32
  have c20 := L.tl.tl.b0.c30
  have c21 := L.tl.tl.b0.c31
  have c22 := L.tl.tl.b0.c32
  go_region_held3 (fun w' => w'.cell? ⟨g1, 0, none⟩ = some (.bool (ng (-1))) ∧ w'.cell? ⟨g1, 1, none⟩ = some (.slice A2 (zl (-1)) c2) ∧ w'.cell? ⟨g1, 2, none⟩ = some (.int .i64 (-1)) ∧ w'.cell? ⟨g2, 0, none⟩ = some (.bool (ng 0)) ∧ w'.cell? ⟨g2, 1, none⟩ = some (.slice A4 (zl 0) c4) ∧ w'.cell? ⟨g2, 2, none⟩ = some (.int .i64 0) ∧ w'.cell? ⟨g3, 0, none⟩ = some (.bool (ng 1)) ∧ w'.cell? ⟨g3, 1, none⟩ = some (.slice A6 (zl 1) c6) ∧ w'.cell? ⟨g3, 2, none⟩ = some (.int .i64 0)) (first | (with_reducible exact ⟨L.tl.tl.b0.c30, L.tl.tl.b0.c31, L.tl.tl.b0.c32, L.tl.b0.c30, L.tl.b0.c31, L.tl.b0.c32, L.b0.c30, L.b0.c31, L.b0.c32⟩) | exact ⟨L.tl.tl.b0.c30, L.tl.tl.b0.c31, L.tl.tl.b0.c32, L.tl.b0.c30, L.tl.b0.c31, L.tl.b0.c32, L.b0.c30, L.b0.c31, L.b0.c32⟩) (first | (go_at_call 30; (with_reducible refine (Q2.out _ ).mono ?_); rintro e wh ⟨vh, rfl, id, be⟩; obtain ⟨A9, c9, rfl, _, in9⟩ := id.form; replace L := (L.step be).n in9; clear be id in9) | (go_at_call 30; (with_reducible refine (Q0.out _ ).mono ?_); rintro e wh ⟨vh, rfl, id, be⟩; obtain ⟨A9, c9, rfl, _, in9⟩ := id.form; replace L := (L.step be).n in9; clear be id in9) | (go_at_call 30; (with_reducible refine (Q4.out _ ).mono ?_); rintro e wh ⟨vh, rfl, id, be⟩; obtain ⟨A9, c9, rfl, _, in9⟩ := id.form; replace L := (L.step be).n in9; clear be id in9) | (go_at_call 16; (with_reducible refine (S1.out _ _ _ ?_ ?_ ).mono ?_); (· (refine isD_n (L.getN ?_); (repeat (first | (with_reducible exact List.mem_cons_self) | apply List.mem_cons_of_mem)))); (· (refine isD_n (L.getN ?_); (repeat (first | (with_reducible exact List.mem_cons_self) | apply List.mem_cons_of_mem)))); rintro e wh ⟨rfl, be⟩; replace L := L.step be; clear be) | (go_at_call 16; (with_reducible refine (S2.out _ _ _ ?_ ?_ ).mono ?_); (· (refine isD_n (L.getN ?_); (repeat (first | (with_reducible exact List.mem_cons_self) | apply List.mem_cons_of_mem)))); (· (refine isD_n (L.getN ?_); (repeat (first | (with_reducible exact List.mem_cons_self) | apply List.mem_cons_of_mem)))); rintro e wh ⟨rfl, be⟩; replace L := L.step be; clear be) | (go_at_call 16; (with_reducible refine (S3.out _ _ _ ?_ ?_ ).mono ?_); (· (refine isD_n (L.getN ?_); (repeat (first | (with_reducible exact List.mem_cons_self) | apply List.mem_cons_of_mem)))); (· (refine isD_n (L.getN ?_); (repeat (first | (with_reducible exact List.mem_cons_self) | apply List.mem_cons_of_mem)))); rintro e wh ⟨rfl, be⟩; replace L := L.step be; clear be))
  clear c00 c01 c02 c10 c11 c12 c20 c21 c22
  go_wp2_with fail
  go_ret
  exact ⟨rfl, L.below⟩

end Go.Proofs.YtgjljalcgiddgaaDoor
