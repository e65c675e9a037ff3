/- The program's interval: atMost, lesser, greater, Valid, Within, Cmp, Same, Sign. -/
import Derived.Test.YtgcmdlannbobgaaDoorRefIvA
import Derived.Test.YtgcmdlannbobgaaDoorBaseG
import Derived.Deep.RegionHeld3
import Derived.Deep.DrawnRows
namespace Go.Proofs.YtgcmdlannbobgaaDoor
open Go.RowKit
set_option linter.unusedVariables false
set_option linter.unusedSimpArgs false
set_option maxRecDepth 100000
attribute [local go_sem ↓] Go.wp_at_zero Go.wp_at_succ

set_option maxHeartbeats 4000000 in
theorem iatmost_any (m e n f : Int) (vx vy : Value) (w : World) (hx : IsD w vx m e) (hy : IsD w vy n f) (lm : zl m ≤ 1000) (ln : zl n ≤ 1000) (he : -70000 ≤ e ∧ e ≤ 70000) (hf : -70000 ≤ f ∧ f ≤ 70000) :
    Calls Tryd.prog 48 #[vx, vy] w (RetB w (decide (dcm m e n f ≤ 0))) := by
  obtain ⟨A, c, rfl, _, hn1⟩ := hx.form
  obtain ⟨B, d, rfl, _, hn2⟩ := hy.form
  have L0 := ((Lq.mk0 w).n hn2).n hn1
  have H10 := fun v u W h1 h2 => dcmp_any m e n f v u W h1 h2 (by omega) (by omega) (by omega) (by omega)
  obtain ⟨x1, hx1⟩ : ∃ x, dcm m e n f = x := ⟨_, rfl⟩
  unfold dcm at hx1
  rw [hx1] at H10
  have H1 := Lib.hid H10
  clear H10
  show Calls _ _ _ _ (RetB w (decide (cmpI (m * 2 ^ (e - min e f).toNat) (n * 2 ^ (f - min e f).toNat) ≤ 0)))
  rw [hx1]
  clear hx hy hn1 hn2 hx1 lm ln he hf
  go_enter Tryd.func48, Tryd.ntmps48
  go_wp2_with fail
  have L := ((L0.varD (w.heap.size) (by simp) (ng m) A (zl m) c e).varD (w.heap.size + 1) (by simp) (ng n) B (zl n) d f)
  have c00 := L.b0.c30
  have c01 := L.b0.c31
  have c02 := L.b0.c32
  have c10 := L.tl.b0.c30
  have c11 := L.tl.b0.c31
  have c12 := L.tl.b0.c32
  (try go_wp2_with fail)
  refine (H1.out _ _ _ (isD_n (m := m) (e := e) (s := .slice A (zl m) c) (L.getN (v := .slice A (zl m) c) (x := (m).natAbs) (by simp))) (isD_n (m := n) (e := f) (s := .slice B (zl n) d) (L.getN (v := .slice B (zl n) d) (x := (n).natAbs) (by simp)))).mono ?_
  rintro e w1 ⟨rfl, be⟩
  clear c00 c01 c02 c10 c11 c12
  replace L := L.step be
  clear be
  have c00 := L.b0.c30
  have c01 := L.b0.c31
  have c02 := L.b0.c32
  (try go_wp2_with fail)
  go_ret
  exact ⟨rfl, L.below⟩
set_option maxHeartbeats 4000000 in
theorem ilesser_any (m e n f : Int) (vx vy : Value) (w : World) (hx : IsD w vx m e) (hy : IsD w vy n f) (lm : zl m ≤ 1000) (ln : zl n ≤ 1000) (he : -20000 ≤ e ∧ e ≤ 20000) (hf : -20000 ≤ f ∧ f ≤ 20000) :
    Calls Tryd.prog 51 #[vx, vy] w (RetD8 w (lstD m e n f).1 (lstD m e n f).2) := by
  obtain ⟨A, c, rfl, _, hn1⟩ := hx.form
  obtain ⟨B, d, rfl, _, hn2⟩ := hy.form
  have L0 := ((Lq.mk0 w).n hn2).n hn1
  obtain ⟨r, hr⟩ : ∃ r, lstD m e n f = r := ⟨_, rfl⟩
  rw [hr]
  unfold lstD at hr
  have H10 := fun v u W k1 k2 => iatmost_any m e n f v u W k1 k2 (by omega) (by omega) (by omega) (by omega)
  obtain ⟨b, hb⟩ : ∃ b, decide (dcm m e n f ≤ 0) = b := ⟨_, rfl⟩
  rw [hb] at H10
  have H1 := Lib.hid H10
  clear H10
  cases b
  · have hb2 := of_decide_eq_false hb
    rw [if_neg hb2] at hr
    subst hr
    clear hb hb2 hx hy hn1 hn2 lm ln he hf
    go_enter Tryd.func51, Tryd.ntmps51
    go_wp2_with fail
    have L := (((L0.varD (w.heap.size) (by simp) (ng m) A (zl m) c e).varD (w.heap.size + 1) (by simp) (ng n) B (zl n) d f).varD (w.heap.size + 2) (by simp) false none 0 0 0)
    have c00 := L.b0.c30
    have f00 := L.b0.fr 0
    have c01 := L.b0.c31
    have f01 := L.b0.fr 1
    have c02 := L.b0.c32
    have f02 := L.b0.fr 2
    have c10 := L.tl.b0.c30
    have c11 := L.tl.b0.c31
    have c12 := L.tl.b0.c32
    have c20 := L.tl.tl.b0.c30
    have c21 := L.tl.tl.b0.c31
    have c22 := L.tl.tl.b0.c32
    (try go_wp2_with fail)
    refine (H1.out _ _ _ (isD_n (m := m) (e := e) (s := .slice A (zl m) c) (L.getN (v := .slice A (zl m) c) (x := (m).natAbs) (by simp))) (isD_n (m := n) (e := f) (s := .slice B (zl n) d) (L.getN (v := .slice B (zl n) d) (x := (n).natAbs) (by simp)))).mono ?_
    rintro e w1 ⟨rfl, be⟩
    clear c00 f00 c01 f01 c02 f02 c10 c11 c12 c20 c21 c22
    replace L := L.step be
    clear be
    have c00 := L.b0.c30
    have f00 := L.b0.fr 0
    have c01 := L.b0.c31
    have f01 := L.b0.fr 1
    have c02 := L.b0.c32
    have f02 := L.b0.fr 2
    have c10 := L.tl.b0.c30
    have c11 := L.tl.b0.c31
    have c12 := L.tl.b0.c32
    have c20 := L.tl.tl.b0.c30
    have c21 := L.tl.tl.b0.c31
    have c22 := L.tl.tl.b0.c32
    (try go_wp2_with fail)
    have LP := L.putD (by omega) (by first | (simp; done) | (simp; omega)) (ng n) B (zl n) d (f)
    have k0 := LP.b0.c30
    have k1 := LP.b0.c31
    have k2 := LP.b0.c32
    unfold put3 at k0 k1 k2
    exact bodyPost_ret (v := .agg #[.bool (ng n), .slice B (zl n) d, .int .i64 (f)]) (by simp [results, Tryd.results51, go_sem, k0, k1, k2]) rfl ⟨_, rfl, isD_n (LP.getN (by simp)), LP.below⟩
  · have hb2 := of_decide_eq_true hb
    rw [if_pos hb2] at hr
    subst hr
    clear hb hb2 hx hy hn1 hn2 lm ln he hf
    go_enter Tryd.func51, Tryd.ntmps51
    go_wp2_with fail
    have L := (((L0.varD (w.heap.size) (by simp) (ng m) A (zl m) c e).varD (w.heap.size + 1) (by simp) (ng n) B (zl n) d f).varD (w.heap.size + 2) (by simp) false none 0 0 0)
    have c00 := L.b0.c30
    have f00 := L.b0.fr 0
    have c01 := L.b0.c31
    have f01 := L.b0.fr 1
    have c02 := L.b0.c32
    have f02 := L.b0.fr 2
    have c10 := L.tl.b0.c30
    have c11 := L.tl.b0.c31
    have c12 := L.tl.b0.c32
    have c20 := L.tl.tl.b0.c30
    have c21 := L.tl.tl.b0.c31
    have c22 := L.tl.tl.b0.c32
    (try go_wp2_with fail)
    refine (H1.out _ _ _ (isD_n (m := m) (e := e) (s := .slice A (zl m) c) (L.getN (v := .slice A (zl m) c) (x := (m).natAbs) (by simp))) (isD_n (m := n) (e := f) (s := .slice B (zl n) d) (L.getN (v := .slice B (zl n) d) (x := (n).natAbs) (by simp)))).mono ?_
    rintro e w1 ⟨rfl, be⟩
    clear c00 f00 c01 f01 c02 f02 c10 c11 c12 c20 c21 c22
    replace L := L.step be
    clear be
    have c00 := L.b0.c30
    have f00 := L.b0.fr 0
    have c01 := L.b0.c31
    have f01 := L.b0.fr 1
    have c02 := L.b0.c32
    have f02 := L.b0.fr 2
    have c10 := L.tl.b0.c30
    have c11 := L.tl.b0.c31
    have c12 := L.tl.b0.c32
    have c20 := L.tl.tl.b0.c30
    have c21 := L.tl.tl.b0.c31
    have c22 := L.tl.tl.b0.c32
    (try go_wp2_with fail)
    have LP := L.putD (by omega) (by first | (simp; done) | (simp; omega)) (ng m) A (zl m) c (e)
    have k0 := LP.b0.c30
    have k1 := LP.b0.c31
    have k2 := LP.b0.c32
    unfold put3 at k0 k1 k2
    exact bodyPost_ret (v := .agg #[.bool (ng m), .slice A (zl m) c, .int .i64 (e)]) (by simp [results, Tryd.results51, go_sem, k0, k1, k2]) rfl ⟨_, rfl, isD_n (LP.getN (by simp)), LP.below⟩
set_option maxHeartbeats 4000000 in
theorem igreater_any (m e n f : Int) (vx vy : Value) (w : World) (hx : IsD w vx m e) (hy : IsD w vy n f) (lm : zl m ≤ 1000) (ln : zl n ≤ 1000) (he : -20000 ≤ e ∧ e ≤ 20000) (hf : -20000 ≤ f ∧ f ≤ 20000) (v1 : Dv m e) (v2 : Dv n f) :
    Calls Tryd.prog 50 #[vx, vy] w (RetD8 w (gstD m e n f).1 (gstD m e n f).2) := by
  obtain ⟨A, c, rfl, _, hn1⟩ := hx.form
  obtain ⟨B, d, rfl, _, hn2⟩ := hy.form
  have L0 := ((Lq.mk0 w).n hn2).n hn1
  obtain ⟨r, hr⟩ : ∃ r, gstD m e n f = r := ⟨_, rfl⟩
  rw [hr]
  unfold gstD at hr
  have hq := dcm_eq v1 v2
  have H10 := fun v u W k1 k2 => iatmost_any m e n f v u W k1 k2 (by omega) (by omega) (by omega) (by omega)
  obtain ⟨b, hb⟩ : ∃ b, decide (dcm m e n f ≤ 0) = b := ⟨_, rfl⟩
  rw [hb] at H10
  have H1 := Lib.hid H10
  clear H10
  cases b
  · have hb2 := of_decide_eq_false hb
    rw [if_pos (by omega)] at hr
    subst hr
    clear hb hb2 hq v1 v2 hx hy hn1 hn2 lm ln he hf
    go_enter Tryd.func50, Tryd.ntmps50
    go_wp2_with fail
    have L := (((L0.varD (w.heap.size) (by simp) (ng m) A (zl m) c e).varD (w.heap.size + 1) (by simp) (ng n) B (zl n) d f).varD (w.heap.size + 2) (by simp) false none 0 0 0)
    have c00 := L.b0.c30
    have f00 := L.b0.fr 0
    have c01 := L.b0.c31
    have f01 := L.b0.fr 1
    have c02 := L.b0.c32
    have f02 := L.b0.fr 2
    have c10 := L.tl.b0.c30
    have c11 := L.tl.b0.c31
    have c12 := L.tl.b0.c32
    have c20 := L.tl.tl.b0.c30
    have c21 := L.tl.tl.b0.c31
    have c22 := L.tl.tl.b0.c32
    (try go_wp2_with fail)
    refine (H1.out _ _ _ (isD_n (m := m) (e := e) (s := .slice A (zl m) c) (L.getN (v := .slice A (zl m) c) (x := (m).natAbs) (by simp))) (isD_n (m := n) (e := f) (s := .slice B (zl n) d) (L.getN (v := .slice B (zl n) d) (x := (n).natAbs) (by simp)))).mono ?_
    rintro e w1 ⟨rfl, be⟩
    clear c00 f00 c01 f01 c02 f02 c10 c11 c12 c20 c21 c22
    replace L := L.step be
    clear be
    have c00 := L.b0.c30
    have f00 := L.b0.fr 0
    have c01 := L.b0.c31
    have f01 := L.b0.fr 1
    have c02 := L.b0.c32
    have f02 := L.b0.fr 2
    have c10 := L.tl.b0.c30
    have c11 := L.tl.b0.c31
    have c12 := L.tl.b0.c32
    have c20 := L.tl.tl.b0.c30
    have c21 := L.tl.tl.b0.c31
    have c22 := L.tl.tl.b0.c32
    (try go_wp2_with fail)
    have LP := L.putD (by omega) (by first | (simp; done) | (simp; omega)) (ng m) A (zl m) c (e)
    have k0 := LP.b0.c30
    have k1 := LP.b0.c31
    have k2 := LP.b0.c32
    unfold put3 at k0 k1 k2
    exact bodyPost_ret (v := .agg #[.bool (ng m), .slice A (zl m) c, .int .i64 (e)]) (by simp [results, Tryd.results50, go_sem, k0, k1, k2]) rfl ⟨_, rfl, isD_n (LP.getN (by simp)), LP.below⟩
  · have hb2 := of_decide_eq_true hb
    have hr2 : (n, f) = r := by
      rw [← hr]
      split
      · rename_i h0
        have h1 := hq.1 (by omega)
        rw [h1.1, h1.2]
      · rfl
    clear hr
    subst hr2
    clear hb hb2 hq v1 v2 hx hy hn1 hn2 lm ln he hf
    go_enter Tryd.func50, Tryd.ntmps50
    go_wp2_with fail
    have L := (((L0.varD (w.heap.size) (by simp) (ng m) A (zl m) c e).varD (w.heap.size + 1) (by simp) (ng n) B (zl n) d f).varD (w.heap.size + 2) (by simp) false none 0 0 0)
    have c00 := L.b0.c30
    have f00 := L.b0.fr 0
    have c01 := L.b0.c31
    have f01 := L.b0.fr 1
    have c02 := L.b0.c32
    have f02 := L.b0.fr 2
    have c10 := L.tl.b0.c30
    have c11 := L.tl.b0.c31
    have c12 := L.tl.b0.c32
    have c20 := L.tl.tl.b0.c30
    have c21 := L.tl.tl.b0.c31
    have c22 := L.tl.tl.b0.c32
    (try go_wp2_with fail)
    refine (H1.out _ _ _ (isD_n (m := m) (e := e) (s := .slice A (zl m) c) (L.getN (v := .slice A (zl m) c) (x := (m).natAbs) (by simp))) (isD_n (m := n) (e := f) (s := .slice B (zl n) d) (L.getN (v := .slice B (zl n) d) (x := (n).natAbs) (by simp)))).mono ?_
    rintro e w1 ⟨rfl, be⟩
    clear c00 f00 c01 f01 c02 f02 c10 c11 c12 c20 c21 c22
    replace L := L.step be
    clear be
    have c00 := L.b0.c30
    have f00 := L.b0.fr 0
    have c01 := L.b0.c31
    have f01 := L.b0.fr 1
    have c02 := L.b0.c32
    have f02 := L.b0.fr 2
    have c10 := L.tl.b0.c30
    have c11 := L.tl.b0.c31
    have c12 := L.tl.b0.c32
    have c20 := L.tl.tl.b0.c30
    have c21 := L.tl.tl.b0.c31
    have c22 := L.tl.tl.b0.c32
    (try go_wp2_with fail)
    have LP := L.putD (by omega) (by first | (simp; done) | (simp; omega)) (ng n) B (zl n) d (f)
    have k0 := LP.b0.c30
    have k1 := LP.b0.c31
    have k2 := LP.b0.c32
    unfold put3 at k0 k1 k2
    exact bodyPost_ret (v := .agg #[.bool (ng n), .slice B (zl n) d, .int .i64 (f)]) (by simp [results, Tryd.results50, go_sem, k0, k1, k2]) rfl ⟨_, rfl, isD_n (LP.getN (by simp)), LP.below⟩
set_option maxHeartbeats 4000000 in
theorem i10valid_any (m e n f : Int) (vx : Value) (w : World) (hx : IsI w vx m e n f) (lm : zl m ≤ 1000) (ln : zl n ≤ 1000) (he : -70000 ≤ e ∧ e ≤ 70000) (hf : -70000 ≤ f ∧ f ≤ 70000) (hv : Dv m e) (hv2 : Dv n f) :
    Calls Tryd.prog 29 #[vx] w (RetB w (decide (dcm m e n f ≤ 0))) := by
  obtain ⟨A, c, B, d, rfl, hn1, hn2⟩ := hx.form
  have L0 := ((Lq.mk0 w).n hn2).n hn1
  have hok : ∀ m e : Int, Dv m e → (if m = 0 then decide (e = 0) else fits8 m e) = true := fun m e h => by
    rcases h with ⟨h1, h2⟩ | ⟨h1, h2⟩
    · rw [if_pos h1, h2]; rfl
    · rw [if_neg h1, h2]
  have v1 := fun v W h => dvalid_d m e v W h (by omega)
  have v2 := fun v W h => dvalid_d n f v W h (by omega)
  rw [hok m e hv] at v1
  rw [hok n f hv2] at v2
  have V1 := Lib.hid v1
  have V2 := Lib.hid v2
  have H10 := fun v u W k1 k2 => iatmost_any m e n f v u W k1 k2 (by omega) (by omega) (by omega) (by omega)
  obtain ⟨b, hb⟩ : ∃ b, decide (dcm m e n f ≤ 0) = b := ⟨_, rfl⟩
  rw [hb] at H10
  have H1 := Lib.hid H10
  clear H10
  rw [hb]
  clear v1 v2 hok hx hn1 hn2 hb lm ln he hf hv hv2
  go_enter Tryd.func29, Tryd.ntmps29
  go_wp2_with fail
  have L := (L0.varI (w.heap.size) (by simp) (ng m) A (zl m) c e (ng n) B (zl n) d f)
  have c00 := L.b0.c60
  have c01 := L.b0.c61
  have c02 := L.b0.c62
  have c03 := L.b0.c63
  have c04 := L.b0.c64
  have c05 := L.b0.c65
  (try go_wp2_with fail)
  refine (V1.out _ _ (isD_n (m := m) (e := e) (s := .slice A (zl m) c) (L.getN (v := .slice A (zl m) c) (x := (m).natAbs) (by simp)))).mono ?_
  rintro e w1 ⟨rfl, be⟩
  clear c00 c01 c02 c03 c04 c05
  replace L := L.step be
  clear be
  have c00 := L.b0.c60
  have c01 := L.b0.c61
  have c02 := L.b0.c62
  have c03 := L.b0.c63
  have c04 := L.b0.c64
  have c05 := L.b0.c65
  (try go_wp2_with fail)
  refine (V2.out _ _ (isD_n (m := n) (e := f) (s := .slice B (zl n) d) (L.getN (v := .slice B (zl n) d) (x := (n).natAbs) (by simp)))).mono ?_
  rintro e w2 ⟨rfl, be⟩
  clear c00 c01 c02 c03 c04 c05
  replace L := L.step be
  clear be
  have c00 := L.b0.c60
  have c01 := L.b0.c61
  have c02 := L.b0.c62
  have c03 := L.b0.c63
  have c04 := L.b0.c64
  have c05 := L.b0.c65
  (try go_wp2_with fail)
  refine (H1.out _ _ _ (isD_n (m := m) (e := e) (s := .slice A (zl m) c) (L.getN (v := .slice A (zl m) c) (x := (m).natAbs) (by simp))) (isD_n (m := n) (e := f) (s := .slice B (zl n) d) (L.getN (v := .slice B (zl n) d) (x := (n).natAbs) (by simp)))).mono ?_
  rintro e w3 ⟨rfl, be⟩
  clear c00 c01 c02 c03 c04 c05
  replace L := L.step be
  clear be
  have c00 := L.b0.c60
  have c01 := L.b0.c61
  have c02 := L.b0.c62
  have c03 := L.b0.c63
  have c04 := L.b0.c64
  have c05 := L.b0.c65
  (try go_wp2_with fail)
  go_ret
  exact ⟨rfl, L.below⟩
set_option maxHeartbeats 4000000 in
theorem i10raw_any (b b' : Bool) (l l' : List Nat) (A A' : Option Addr) (p c p' c' : Nat) (e e' : Int) (w : World) (h : Sl w A p c l) (h' : Sl w A' p' c' l') (hp : p ≤ 20) (hp' : p' ≤ 20) :
    Calls Tryd.prog 29 #[.agg #[.bool b, .slice A p c, .int .i64 e, .bool b', .slice A' p' c', .int .i64 e']] w (RetB w (dval b l e && (dval b' l' e' && decide (dcm (sg b (val l)) e (sg b' (val l')) e' ≤ 0)))) := by
  have V1 := Lib.hid (fun W (hW : Below w.heap.size w W) => dvalid_any b l A p c e W (h.mono hW) (by omega))
  have V2 := Lib.hid (fun W (hW : Below w.heap.size w W) => dvalid_any b' l' A' p' c' e' W (h'.mono hW) (by omega))
  cases d1 : dval b l e
  · rw [Bool.false_and]
    rw [d1] at V1
    clear d1 h h' hp hp'
    go_enter Tryd.func29, Tryd.ntmps29
    go_wp2_with fail
    have L := ((Lq.mk0 w).varI (w.heap.size) (by simp) b A p c e b' A' p' c' e')
    have c00 := L.b0.c60
    have c01 := L.b0.c61
    have c02 := L.b0.c62
    have c03 := L.b0.c63
    have c04 := L.b0.c64
    have c05 := L.b0.c65
    (try go_wp2_with fail)
    refine (V1.out _ L.below).mono ?_
    rintro e w1 ⟨rfl, be⟩
    clear c00 c01 c02 c03 c04 c05
    replace L := L.step be
    clear be
    have c00 := L.b0.c60
    have c01 := L.b0.c61
    have c02 := L.b0.c62
    have c03 := L.b0.c63
    have c04 := L.b0.c64
    have c05 := L.b0.c65
    (try go_wp2_with fail)
    go_ret
    exact ⟨rfl, L.below⟩
  · rw [Bool.true_and]
    cases d2 : dval b' l' e'
    · rw [Bool.false_and]
      rw [d1] at V1
      rw [d2] at V2
      clear d1 d2 h h' hp hp'
      go_enter Tryd.func29, Tryd.ntmps29
      go_wp2_with fail
      have L := ((Lq.mk0 w).varI (w.heap.size) (by simp) b A p c e b' A' p' c' e')
      have c00 := L.b0.c60
      have c01 := L.b0.c61
      have c02 := L.b0.c62
      have c03 := L.b0.c63
      have c04 := L.b0.c64
      have c05 := L.b0.c65
      (try go_wp2_with fail)
      refine (V1.out _ L.below).mono ?_
      rintro e w1 ⟨rfl, be⟩
      clear c00 c01 c02 c03 c04 c05
      replace L := L.step be
      clear be
      have c00 := L.b0.c60
      have c01 := L.b0.c61
      have c02 := L.b0.c62
      have c03 := L.b0.c63
      have c04 := L.b0.c64
      have c05 := L.b0.c65
      (try go_wp2_with fail)
      refine (V2.out _ L.below).mono ?_
      rintro e w2 ⟨rfl, be⟩
      clear c00 c01 c02 c03 c04 c05
      replace L := L.step be
      clear be
      have c00 := L.b0.c60
      have c01 := L.b0.c61
      have c02 := L.b0.c62
      have c03 := L.b0.c63
      have c04 := L.b0.c64
      have c05 := L.b0.c65
      (try go_wp2_with fail)
      go_ret
      exact ⟨rfl, L.below⟩
    · rw [Bool.true_and]
      obtain ⟨m, r1, r2, r3, r4, r5⟩ := dval_pair h d1
      obtain ⟨n, r6, r7, r8, r9, r10⟩ := dval_pair h' d2
      rw [r1, r6]
      have x1 := dv_bound r5
      have x2 := dv_bound r10
      clear V1 V2 d1 d2 h h' r1 r6
      subst r2 r7 r3 r8
      exact i10valid_any m e n e' _ w (isI_n r4 r9) (by omega) (by omega) (by omega) (by omega) r5 r10
set_option maxHeartbeats 4000000 in
theorem i10within_any (m e n f m2 e2 n2 f2 : Int) (vx vy : Value) (w : World) (hx : IsI w vx m e n f) (hy : IsI w vy m2 e2 n2 f2) (lm : zl m ≤ 1000) (ln : zl n ≤ 1000) (lm2 : zl m2 ≤ 1000) (ln2 : zl n2 ≤ 1000) (he : -20000 ≤ e ∧ e ≤ 20000) (hf : -20000 ≤ f ∧ f ≤ 20000) (he2 : -20000 ≤ e2 ∧ e2 ≤ 20000) (hf2 : -20000 ≤ f2 ∧ f2 ≤ 20000) :
    Calls Tryd.prog 19 #[vx, vy] w (RetB w (inB m e n f m2 e2 n2 f2)) := by
  obtain ⟨A, c, B, d, rfl, hn1, hn2⟩ := hx.form
  obtain ⟨A2, k2, B2, d2, rfl, hn3, hn4⟩ := hy.form
  have L0 := ((((Lq.mk0 w).n hn4).n hn3).n hn2).n hn1
  unfold inB
  have H10 := fun v u W k1 k2 => iatmost_any m2 e2 m e v u W k1 k2 (by omega) (by omega) (by omega) (by omega)
  obtain ⟨x1, hx1⟩ : ∃ b, decide (dcm m2 e2 m e ≤ 0) = b := ⟨_, rfl⟩
  rw [hx1] at H10
  have H1 := Lib.hid H10
  clear H10
  have H20 := fun v u W k1 k2 => iatmost_any n f n2 f2 v u W k1 k2 (by omega) (by omega) (by omega) (by omega)
  obtain ⟨x2, hx2⟩ : ∃ b, decide (dcm n f n2 f2 ≤ 0) = b := ⟨_, rfl⟩
  rw [hx2] at H20
  have H2 := Lib.hid H20
  clear H20
  rw [hx1, hx2]
  clear hx hy hn1 hn2 hn3 hn4 hx1 hx2 lm ln lm2 ln2 he hf he2 hf2
  cases x1
  · rw [Bool.false_and]
    go_enter Tryd.func19, Tryd.ntmps19
    go_wp2_with fail
    have L := ((L0.varI (w.heap.size) (by simp) (ng m) A (zl m) c e (ng n) B (zl n) d f).varI (w.heap.size + 1) (by simp) (ng m2) A2 (zl m2) k2 e2 (ng n2) B2 (zl n2) d2 f2)
    have c00 := L.b0.c60
    have c01 := L.b0.c61
    have c02 := L.b0.c62
    have c03 := L.b0.c63
    have c04 := L.b0.c64
    have c05 := L.b0.c65
    have c10 := L.tl.b0.c60
    have c11 := L.tl.b0.c61
    have c12 := L.tl.b0.c62
    have c13 := L.tl.b0.c63
    have c14 := L.tl.b0.c64
    have c15 := L.tl.b0.c65
    (try go_wp2_with fail)
    refine (H1.out _ _ _ (isD_n (m := m2) (e := e2) (s := .slice A2 (zl m2) k2) (L.getN (v := .slice A2 (zl m2) k2) (x := (m2).natAbs) (by simp))) (isD_n (m := m) (e := e) (s := .slice A (zl m) c) (L.getN (v := .slice A (zl m) c) (x := (m).natAbs) (by simp)))).mono ?_
    rintro e w1 ⟨rfl, be⟩
    clear c00 c01 c02 c03 c04 c05 c10 c11 c12 c13 c14 c15
    replace L := L.step be
    clear be
    have c00 := L.b0.c60
    have c01 := L.b0.c61
    have c02 := L.b0.c62
    have c03 := L.b0.c63
    have c04 := L.b0.c64
    have c05 := L.b0.c65
    have c10 := L.tl.b0.c60
    have c11 := L.tl.b0.c61
    have c12 := L.tl.b0.c62
    have c13 := L.tl.b0.c63
    have c14 := L.tl.b0.c64
    have c15 := L.tl.b0.c65
    (try go_wp2_with fail)
    go_ret
    exact ⟨rfl, L.below⟩
  · rw [Bool.true_and]
    go_enter Tryd.func19, Tryd.ntmps19
    go_wp2_with fail
    have L := ((L0.varI (w.heap.size) (by simp) (ng m) A (zl m) c e (ng n) B (zl n) d f).varI (w.heap.size + 1) (by simp) (ng m2) A2 (zl m2) k2 e2 (ng n2) B2 (zl n2) d2 f2)
    have c00 := L.b0.c60
    have c01 := L.b0.c61
    have c02 := L.b0.c62
    have c03 := L.b0.c63
    have c04 := L.b0.c64
    have c05 := L.b0.c65
    have c10 := L.tl.b0.c60
    have c11 := L.tl.b0.c61
    have c12 := L.tl.b0.c62
    have c13 := L.tl.b0.c63
    have c14 := L.tl.b0.c64
    have c15 := L.tl.b0.c65
    (try go_wp2_with fail)
    refine (H1.out _ _ _ (isD_n (m := m2) (e := e2) (s := .slice A2 (zl m2) k2) (L.getN (v := .slice A2 (zl m2) k2) (x := (m2).natAbs) (by simp))) (isD_n (m := m) (e := e) (s := .slice A (zl m) c) (L.getN (v := .slice A (zl m) c) (x := (m).natAbs) (by simp)))).mono ?_
    rintro e w1 ⟨rfl, be⟩
    clear c00 c01 c02 c03 c04 c05 c10 c11 c12 c13 c14 c15
    replace L := L.step be
    clear be
    have c00 := L.b0.c60
    have c01 := L.b0.c61
    have c02 := L.b0.c62
    have c03 := L.b0.c63
    have c04 := L.b0.c64
    have c05 := L.b0.c65
    have c10 := L.tl.b0.c60
    have c11 := L.tl.b0.c61
    have c12 := L.tl.b0.c62
    have c13 := L.tl.b0.c63
    have c14 := L.tl.b0.c64
    have c15 := L.tl.b0.c65
    (try go_wp2_with fail)
    refine (H2.out _ _ _ (isD_n (m := n) (e := f) (s := .slice B (zl n) d) (L.getN (v := .slice B (zl n) d) (x := (n).natAbs) (by simp))) (isD_n (m := n2) (e := f2) (s := .slice B2 (zl n2) d2) (L.getN (v := .slice B2 (zl n2) d2) (x := (n2).natAbs) (by simp)))).mono ?_
    rintro e w2 ⟨rfl, be⟩
    clear c00 c01 c02 c03 c04 c05 c10 c11 c12 c13 c14 c15
    replace L := L.step be
    clear be
    (try go_wp2_with fail)
    go_ret
    exact ⟨rfl, L.below⟩
set_option maxHeartbeats 4000000 in
theorem i10cmp_any (m e n f m2 e2 n2 f2 : Int) (vx vy : Value) (w : World) (hx : IsI w vx m e n f) (hy : IsI w vy m2 e2 n2 f2) (lm : zl m ≤ 1000) (ln : zl n ≤ 1000) (lm2 : zl m2 ≤ 1000) (ln2 : zl n2 ≤ 1000) (he : -20000 ≤ e ∧ e ≤ 20000) (hf : -20000 ≤ f ∧ f ≤ 20000) (he2 : -20000 ≤ e2 ∧ e2 ≤ 20000) (hf2 : -20000 ≤ f2 ∧ f2 ≤ 20000) :
    Calls Tryd.prog 28 #[vx, vy] w (RetI w (icm m e n f m2 e2 n2 f2)) := by
  obtain ⟨A, c, B, d, rfl, hn1, hn2⟩ := hx.form
  obtain ⟨A2, k2, B2, d2, rfl, hn3, hn4⟩ := hy.form
  have L0 := ((((Lq.mk0 w).n hn4).n hn3).n hn2).n hn1
  obtain ⟨r, hr⟩ : ∃ r, icm m e n f m2 e2 n2 f2 = r := ⟨_, rfl⟩
  rw [hr]
  unfold icm at hr
  have sw := dcm_swap m2 e2 n f
  have H10 := fun v u W k1 k2 => iatmost_any m2 e2 n f v u W k1 k2 (by omega) (by omega) (by omega) (by omega)
  obtain ⟨x1, hx1⟩ : ∃ b, decide (dcm m2 e2 n f ≤ 0) = b := ⟨_, rfl⟩
  rw [hx1] at H10
  have H1 := Lib.hid H10
  clear H10
  have H20 := fun v u W k1 k2 => iatmost_any m e n2 f2 v u W k1 k2 (by omega) (by omega) (by omega) (by omega)
  obtain ⟨x2, hx2⟩ : ∃ b, decide (dcm m e n2 f2 ≤ 0) = b := ⟨_, rfl⟩
  rw [hx2] at H20
  have H2 := Lib.hid H20
  clear H20
  clear hx hy hn1 hn2 hn3 hn4 lm ln lm2 ln2 he hf he2 hf2
  cases x1
  · have q1 := of_decide_eq_false hx1
    rw [if_pos (by omega)] at hr
    subst hr
    clear hx1 hx2 q1 sw H2
    go_enter Tryd.func28, Tryd.ntmps28
    go_wp2_with fail
    have L := ((L0.varI (w.heap.size) (by simp) (ng m) A (zl m) c e (ng n) B (zl n) d f).varI (w.heap.size + 1) (by simp) (ng m2) A2 (zl m2) k2 e2 (ng n2) B2 (zl n2) d2 f2)
    have c00 := L.b0.c60
    have c01 := L.b0.c61
    have c02 := L.b0.c62
    have c03 := L.b0.c63
    have c04 := L.b0.c64
    have c05 := L.b0.c65
    have c10 := L.tl.b0.c60
    have c11 := L.tl.b0.c61
    have c12 := L.tl.b0.c62
    have c13 := L.tl.b0.c63
    have c14 := L.tl.b0.c64
    have c15 := L.tl.b0.c65
    (try go_wp2_with fail)
    refine (H1.out _ _ _ (isD_n (m := m2) (e := e2) (s := .slice A2 (zl m2) k2) (L.getN (v := .slice A2 (zl m2) k2) (x := (m2).natAbs) (by simp))) (isD_n (m := n) (e := f) (s := .slice B (zl n) d) (L.getN (v := .slice B (zl n) d) (x := (n).natAbs) (by simp)))).mono ?_
    rintro e w1 ⟨rfl, be⟩
    clear c00 c01 c02 c03 c04 c05 c10 c11 c12 c13 c14 c15
    replace L := L.step be
    clear be
    have c00 := L.b0.c60
    have c01 := L.b0.c61
    have c02 := L.b0.c62
    have c03 := L.b0.c63
    have c04 := L.b0.c64
    have c05 := L.b0.c65
    have c10 := L.tl.b0.c60
    have c11 := L.tl.b0.c61
    have c12 := L.tl.b0.c62
    have c13 := L.tl.b0.c63
    have c14 := L.tl.b0.c64
    have c15 := L.tl.b0.c65
    (try go_wp2_with fail)
    go_ret
    exact ⟨rfl, L.below⟩
  · have q1 := of_decide_eq_true hx1
    rw [if_neg (by omega)] at hr
    clear hx1 q1 sw
    cases x2
    · have q2 := of_decide_eq_false hx2
      rw [if_pos (by omega)] at hr
      subst hr
      clear hx2 q2
      go_enter Tryd.func28, Tryd.ntmps28
      go_wp2_with fail
      have L := ((L0.varI (w.heap.size) (by simp) (ng m) A (zl m) c e (ng n) B (zl n) d f).varI (w.heap.size + 1) (by simp) (ng m2) A2 (zl m2) k2 e2 (ng n2) B2 (zl n2) d2 f2)
      have c00 := L.b0.c60
      have c01 := L.b0.c61
      have c02 := L.b0.c62
      have c03 := L.b0.c63
      have c04 := L.b0.c64
      have c05 := L.b0.c65
      have c10 := L.tl.b0.c60
      have c11 := L.tl.b0.c61
      have c12 := L.tl.b0.c62
      have c13 := L.tl.b0.c63
      have c14 := L.tl.b0.c64
      have c15 := L.tl.b0.c65
      (try go_wp2_with fail)
      refine (H1.out _ _ _ (isD_n (m := m2) (e := e2) (s := .slice A2 (zl m2) k2) (L.getN (v := .slice A2 (zl m2) k2) (x := (m2).natAbs) (by simp))) (isD_n (m := n) (e := f) (s := .slice B (zl n) d) (L.getN (v := .slice B (zl n) d) (x := (n).natAbs) (by simp)))).mono ?_
      rintro e w1 ⟨rfl, be⟩
      clear c00 c01 c02 c03 c04 c05 c10 c11 c12 c13 c14 c15
      replace L := L.step be
      clear be
      have c00 := L.b0.c60
      have c01 := L.b0.c61
      have c02 := L.b0.c62
      have c03 := L.b0.c63
      have c04 := L.b0.c64
      have c05 := L.b0.c65
      have c10 := L.tl.b0.c60
      have c11 := L.tl.b0.c61
      have c12 := L.tl.b0.c62
      have c13 := L.tl.b0.c63
      have c14 := L.tl.b0.c64
      have c15 := L.tl.b0.c65
      (try go_wp2_with fail)
      refine (H2.out _ _ _ (isD_n (m := m) (e := e) (s := .slice A (zl m) c) (L.getN (v := .slice A (zl m) c) (x := (m).natAbs) (by simp))) (isD_n (m := n2) (e := f2) (s := .slice B2 (zl n2) d2) (L.getN (v := .slice B2 (zl n2) d2) (x := (n2).natAbs) (by simp)))).mono ?_
      rintro e w2 ⟨rfl, be⟩
      clear c00 c01 c02 c03 c04 c05 c10 c11 c12 c13 c14 c15
      replace L := L.step be
      clear be
      (try go_wp2_with fail)
      go_ret
      exact ⟨rfl, L.below⟩
    · have q2 := of_decide_eq_true hx2
      rw [if_neg (by omega)] at hr
      subst hr
      clear hx2 q2
      go_enter Tryd.func28, Tryd.ntmps28
      go_wp2_with fail
      have L := ((L0.varI (w.heap.size) (by simp) (ng m) A (zl m) c e (ng n) B (zl n) d f).varI (w.heap.size + 1) (by simp) (ng m2) A2 (zl m2) k2 e2 (ng n2) B2 (zl n2) d2 f2)
      have c00 := L.b0.c60
      have c01 := L.b0.c61
      have c02 := L.b0.c62
      have c03 := L.b0.c63
      have c04 := L.b0.c64
      have c05 := L.b0.c65
      have c10 := L.tl.b0.c60
      have c11 := L.tl.b0.c61
      have c12 := L.tl.b0.c62
      have c13 := L.tl.b0.c63
      have c14 := L.tl.b0.c64
      have c15 := L.tl.b0.c65
      (try go_wp2_with fail)
      refine (H1.out _ _ _ (isD_n (m := m2) (e := e2) (s := .slice A2 (zl m2) k2) (L.getN (v := .slice A2 (zl m2) k2) (x := (m2).natAbs) (by simp))) (isD_n (m := n) (e := f) (s := .slice B (zl n) d) (L.getN (v := .slice B (zl n) d) (x := (n).natAbs) (by simp)))).mono ?_
      rintro e w1 ⟨rfl, be⟩
      clear c00 c01 c02 c03 c04 c05 c10 c11 c12 c13 c14 c15
      replace L := L.step be
      clear be
      have c00 := L.b0.c60
      have c01 := L.b0.c61
      have c02 := L.b0.c62
      have c03 := L.b0.c63
      have c04 := L.b0.c64
      have c05 := L.b0.c65
      have c10 := L.tl.b0.c60
      have c11 := L.tl.b0.c61
      have c12 := L.tl.b0.c62
      have c13 := L.tl.b0.c63
      have c14 := L.tl.b0.c64
      have c15 := L.tl.b0.c65
      (try go_wp2_with fail)
      refine (H2.out _ _ _ (isD_n (m := m) (e := e) (s := .slice A (zl m) c) (L.getN (v := .slice A (zl m) c) (x := (m).natAbs) (by simp))) (isD_n (m := n2) (e := f2) (s := .slice B2 (zl n2) d2) (L.getN (v := .slice B2 (zl n2) d2) (x := (n2).natAbs) (by simp)))).mono ?_
      rintro e w2 ⟨rfl, be⟩
      clear c00 c01 c02 c03 c04 c05 c10 c11 c12 c13 c14 c15
      replace L := L.step be
      clear be
      (try go_wp2_with fail)
      go_ret
      exact ⟨rfl, L.below⟩
set_option maxHeartbeats 4000000 in
theorem i10same_any (m e n f m2 e2 n2 f2 : Int) (vx vy : Value) (w : World) (hx : IsI w vx m e n f) (hy : IsI w vy m2 e2 n2 f2) (lm : zl m ≤ 1000) (ln : zl n ≤ 1000) (lm2 : zl m2 ≤ 1000) (ln2 : zl n2 ≤ 1000) (he : -20000 ≤ e ∧ e ≤ 20000) (hf : -20000 ≤ f ∧ f ≤ 20000) (he2 : -20000 ≤ e2 ∧ e2 ≤ 20000) (hf2 : -20000 ≤ f2 ∧ f2 ≤ 20000) (hv1 : Dv m e) (hv2 : Dv n f) (hv3 : Dv m2 e2) (hv4 : Dv n2 f2) :
    Calls Tryd.prog 22 #[vx, vy] w (RetB w ((decide (e = e2) && decide (m = m2)) && (decide (f = f2) && decide (n = n2)))) := by
  obtain ⟨A, c, B, d, rfl, hn1, hn2⟩ := hx.form
  obtain ⟨A2, k2, B2, d2, rfl, hn3, hn4⟩ := hy.form
  have L0 := ((((Lq.mk0 w).n hn4).n hn3).n hn2).n hn1
  have s1 : (decide (e = e2) && decide (m = m2)) = decide (dcm m e m2 e2 = 0) := by
    rw [Bool.eq_iff_iff, Bool.and_eq_true, decide_eq_true_iff, decide_eq_true_iff, decide_eq_true_iff, dcm_eq hv1 hv3]
    exact ⟨fun h => ⟨h.2, h.1⟩, fun h => ⟨h.2, h.1⟩⟩
  have s2 : (decide (f = f2) && decide (n = n2)) = decide (dcm n f n2 f2 = 0) := by
    rw [Bool.eq_iff_iff, Bool.and_eq_true, decide_eq_true_iff, decide_eq_true_iff, decide_eq_true_iff, dcm_eq hv2 hv4]
    exact ⟨fun h => ⟨h.2, h.1⟩, fun h => ⟨h.2, h.1⟩⟩
  rw [s1, s2]
  unfold dcm
  have H10 := fun v u W h1 h2 => dcmp_any m e m2 e2 v u W h1 h2 (by omega) (by omega) (by omega) (by omega)
  obtain ⟨x1, hx1⟩ : ∃ x, dcm m e m2 e2 = x := ⟨_, rfl⟩
  unfold dcm at hx1
  rw [hx1] at H10
  have H1 := Lib.hid H10
  clear H10
  have H20 := fun v u W h1 h2 => dcmp_any n f n2 f2 v u W h1 h2 (by omega) (by omega) (by omega) (by omega)
  obtain ⟨x2, hx2⟩ : ∃ x, dcm n f n2 f2 = x := ⟨_, rfl⟩
  unfold dcm at hx2
  rw [hx2] at H20
  have H2 := Lib.hid H20
  clear H20
  rw [hx1, hx2]
  clear s1 s2 hx hy hn1 hn2 hn3 hn4 hx1 hx2 lm ln lm2 ln2 he hf he2 hf2 hv1 hv2 hv3 hv4
  by_cases q : x1 = 0
  · subst q
    rw [decide_eq_true rfl, Bool.true_and]
    have heq9 : (x2 == 0) = decide (x2 = 0) := rfl
    go_enter Tryd.func22, Tryd.ntmps22
    go_wp2_with fail
    have L := ((L0.varI (w.heap.size) (by simp) (ng m) A (zl m) c e (ng n) B (zl n) d f).varI (w.heap.size + 1) (by simp) (ng m2) A2 (zl m2) k2 e2 (ng n2) B2 (zl n2) d2 f2)
    have c00 := L.b0.c60
    have c01 := L.b0.c61
    have c02 := L.b0.c62
    have c03 := L.b0.c63
    have c04 := L.b0.c64
    have c05 := L.b0.c65
    have c10 := L.tl.b0.c60
    have c11 := L.tl.b0.c61
    have c12 := L.tl.b0.c62
    have c13 := L.tl.b0.c63
    have c14 := L.tl.b0.c64
    have c15 := L.tl.b0.c65
    (try go_wp2_with fail)
    refine (H1.out _ _ _ (isD_n (m := m) (e := e) (s := .slice A (zl m) c) (L.getN (v := .slice A (zl m) c) (x := (m).natAbs) (by simp))) (isD_n (m := m2) (e := e2) (s := .slice A2 (zl m2) k2) (L.getN (v := .slice A2 (zl m2) k2) (x := (m2).natAbs) (by simp)))).mono ?_
    rintro e w1 ⟨rfl, be⟩
    clear c00 c01 c02 c03 c04 c05 c10 c11 c12 c13 c14 c15
    replace L := L.step be
    clear be
    have c00 := L.b0.c60
    have c01 := L.b0.c61
    have c02 := L.b0.c62
    have c03 := L.b0.c63
    have c04 := L.b0.c64
    have c05 := L.b0.c65
    have c10 := L.tl.b0.c60
    have c11 := L.tl.b0.c61
    have c12 := L.tl.b0.c62
    have c13 := L.tl.b0.c63
    have c14 := L.tl.b0.c64
    have c15 := L.tl.b0.c65
    (try go_wp2_with fail)
    refine (H2.out _ _ _ (isD_n (m := n) (e := f) (s := .slice B (zl n) d) (L.getN (v := .slice B (zl n) d) (x := (n).natAbs) (by simp))) (isD_n (m := n2) (e := f2) (s := .slice B2 (zl n2) d2) (L.getN (v := .slice B2 (zl n2) d2) (x := (n2).natAbs) (by simp)))).mono ?_
    rintro e w2 ⟨rfl, be⟩
    clear c00 c01 c02 c03 c04 c05 c10 c11 c12 c13 c14 c15
    replace L := L.step be
    clear be
    (try go_wp2_with fail)
    go_ret
    exact ⟨by simp, L.below⟩
  · rw [decide_eq_false q, Bool.false_and]
    have b1 : (x1 == 0) = false := by simpa using q
    go_enter Tryd.func22, Tryd.ntmps22
    go_wp2_with fail
    have L := ((L0.varI (w.heap.size) (by simp) (ng m) A (zl m) c e (ng n) B (zl n) d f).varI (w.heap.size + 1) (by simp) (ng m2) A2 (zl m2) k2 e2 (ng n2) B2 (zl n2) d2 f2)
    have c00 := L.b0.c60
    have c01 := L.b0.c61
    have c02 := L.b0.c62
    have c03 := L.b0.c63
    have c04 := L.b0.c64
    have c05 := L.b0.c65
    have c10 := L.tl.b0.c60
    have c11 := L.tl.b0.c61
    have c12 := L.tl.b0.c62
    have c13 := L.tl.b0.c63
    have c14 := L.tl.b0.c64
    have c15 := L.tl.b0.c65
    (try go_wp2_with fail)
    refine (H1.out _ _ _ (isD_n (m := m) (e := e) (s := .slice A (zl m) c) (L.getN (v := .slice A (zl m) c) (x := (m).natAbs) (by simp))) (isD_n (m := m2) (e := e2) (s := .slice A2 (zl m2) k2) (L.getN (v := .slice A2 (zl m2) k2) (x := (m2).natAbs) (by simp)))).mono ?_
    rintro e w1 ⟨rfl, be⟩
    clear c00 c01 c02 c03 c04 c05 c10 c11 c12 c13 c14 c15
    replace L := L.step be
    clear be
    have c00 := L.b0.c60
    have c01 := L.b0.c61
    have c02 := L.b0.c62
    have c03 := L.b0.c63
    have c04 := L.b0.c64
    have c05 := L.b0.c65
    have c10 := L.tl.b0.c60
    have c11 := L.tl.b0.c61
    have c12 := L.tl.b0.c62
    have c13 := L.tl.b0.c63
    have c14 := L.tl.b0.c64
    have c15 := L.tl.b0.c65
    (try go_wp2_with fail)
    go_ret
    exact ⟨rfl, L.below⟩
set_option maxHeartbeats 4000000 in
theorem i10sign_any (m e n f : Int) (vx : Value) (w : World) (hx : IsI w vx m e n f) (lm : zl m ≤ 1000) (ln : zl n ≤ 1000) (he : -20000 ≤ e ∧ e ≤ 20000) (hf : -20000 ≤ f ∧ f ≤ 20000) :
    Calls Tryd.prog 26 #[vx] w (RetSg w m n) := by
  obtain ⟨A, c, B, d, rfl, hn1, hn2⟩ := hx.form
  have L0 := ((Lq.mk0 w).n hn2).n hn1
  have s1 := fun v W h => dsign_any m e v W h (by omega)
  have s2 := fun v W h => dsign_any n f v W h (by omega)
  unfold RetSg
  obtain ⟨x1, hx1⟩ : ∃ x, cmpI m 0 = x := ⟨_, rfl⟩
  obtain ⟨x2, hx2⟩ : ∃ x, cmpI n 0 = x := ⟨_, rfl⟩
  rw [hx1] at s1
  rw [hx2] at s2
  rw [hx1, hx2]
  have S1 := Lib.hid s1
  have S2 := Lib.hid s2
  clear s1 s2 hx hn1 hn2 hx1 hx2 lm ln he hf
  by_cases q : x1 = x2
  · subst q
    rw [if_pos rfl, decide_eq_true rfl]
    have b1 : (x1 == x1) = true := by simp
    have b2 : (x1 != x1) = false := by simp
    go_enter Tryd.func26, Tryd.ntmps26
    go_wp2_with fail
    have L := (L0.varI (w.heap.size) (by simp) (ng m) A (zl m) c e (ng n) B (zl n) d f)
    have c00 := L.b0.c60
    have c01 := L.b0.c61
    have c02 := L.b0.c62
    have c03 := L.b0.c63
    have c04 := L.b0.c64
    have c05 := L.b0.c65
    (try go_wp2_with fail)
    refine (S1.out _ _ (isD_n (m := m) (e := e) (s := .slice A (zl m) c) (L.getN (v := .slice A (zl m) c) (x := (m).natAbs) (by simp)))).mono ?_
    rintro e w1 ⟨rfl, be⟩
    clear c00 c01 c02 c03 c04 c05
    replace L := L.step be
    clear be
    have c00 := L.b0.c60
    have c01 := L.b0.c61
    have c02 := L.b0.c62
    have c03 := L.b0.c63
    have c04 := L.b0.c64
    have c05 := L.b0.c65
    (try go_wp2_with fail)
    refine (S2.out _ _ (isD_n (m := n) (e := f) (s := .slice B (zl n) d) (L.getN (v := .slice B (zl n) d) (x := (n).natAbs) (by simp)))).mono ?_
    rintro e w2 ⟨rfl, be⟩
    clear c00 c01 c02 c03 c04 c05
    replace L := L.step be
    clear be
    have c00 := L.b0.c60
    have c01 := L.b0.c61
    have c02 := L.b0.c62
    have c03 := L.b0.c63
    have c04 := L.b0.c64
    have c05 := L.b0.c65
    (try go_wp2_with fail)
    go_ret2
    exact ⟨rfl, L.below⟩
  · rw [if_neg q, decide_eq_false q]
    have b1 : (x1 == x2) = false := by simpa using q
    have b2 : (x1 != x2) = true := by simpa using q
    go_enter Tryd.func26, Tryd.ntmps26
    go_wp2_with fail
    have L := (L0.varI (w.heap.size) (by simp) (ng m) A (zl m) c e (ng n) B (zl n) d f)
    have c00 := L.b0.c60
    have c01 := L.b0.c61
    have c02 := L.b0.c62
    have c03 := L.b0.c63
    have c04 := L.b0.c64
    have c05 := L.b0.c65
    (try go_wp2_with fail)
    refine (S1.out _ _ (isD_n (m := m) (e := e) (s := .slice A (zl m) c) (L.getN (v := .slice A (zl m) c) (x := (m).natAbs) (by simp)))).mono ?_
    rintro e w1 ⟨rfl, be⟩
    clear c00 c01 c02 c03 c04 c05
    replace L := L.step be
    clear be
    have c00 := L.b0.c60
    have c01 := L.b0.c61
    have c02 := L.b0.c62
    have c03 := L.b0.c63
    have c04 := L.b0.c64
    have c05 := L.b0.c65
    (try go_wp2_with fail)
    refine (S2.out _ _ (isD_n (m := n) (e := f) (s := .slice B (zl n) d) (L.getN (v := .slice B (zl n) d) (x := (n).natAbs) (by simp)))).mono ?_
    rintro e w2 ⟨rfl, be⟩
    clear c00 c01 c02 c03 c04 c05
    replace L := L.step be
    clear be
    have c00 := L.b0.c60
    have c01 := L.b0.c61
    have c02 := L.b0.c62
    have c03 := L.b0.c63
    have c04 := L.b0.c64
    have c05 := L.b0.c65
    (try go_wp2_with fail)
    go_ret2
    exact ⟨rfl, L.below⟩

end Go.Proofs.YtgcmdlannbobgaaDoor
