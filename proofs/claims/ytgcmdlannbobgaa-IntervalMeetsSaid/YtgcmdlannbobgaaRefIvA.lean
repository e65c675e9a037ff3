/- The reference's Valid, Within, Cmp, Sign, Same, least, greatest. -/
import Derived.Test.YtgcmdlannbobgaaIvMath
import Derived.Test.YtgcmdlannbobgaaBaseE
import Derived.Deep.RegionHeld3
import Derived.Deep.DrawnRows
namespace Go.Proofs.Ytgcmdlannbobgaa
open Go.RowKit
set_option linter.unusedVariables false
set_option linter.unusedSimpArgs false
set_option maxRecDepth 100000
attribute [local go_sem ↓] Go.wp_at_zero Go.wp_at_succ

/-- How two intervals lie. -/
def icm (m e n f m2 e2 n2 f2 : Int) : Int := if dcm n f m2 e2 < 0 then -1 else if 0 < dcm m e n2 f2 then 1 else 0
/-- What Make returns. -/
def RetMk (w : World) (m e n f : Int) : Ending → World → Prop := if dcm m e n f ≤ 0 then RetIE w m e n f 0 else RetIE w 0 0 0 0 1
/-- What Sign returns. -/
def RetSg (w : World) (m n : Int) (en : Ending) (w' : World) : Prop := en = .returned (.tuple #[.int .i64 (if cmpI m 0 = cmpI n 0 then cmpI m 0 else 0), .bool (decide (cmpI m 0 = cmpI n 0))]) ∧ Below w.heap.size w w'

theorem dval_pair {w : World} {A : Option Addr} {p c : Nat} {b : Bool} {l : List Nat} {e : Int} (h : Sl w A p c l) (hv : dval b l e = true) : ∃ m, sg b (val l) = m ∧ b = ng m ∧ p = zl m ∧ IsN w (.slice A p c) m.natAbs ∧ Dv m e := by
  have hv0 := hv
  unfold dval sval at hv
  rw [Bool.and_eq_true, Bool.and_eq_true] at hv
  have ht := hv.1.1
  have hb := hv.1.2
  have hn := isN_trim8 h ht
  have hd : dig (val l) = l := by rw [dig_val h.small, ← trim_take, of_decide_eq_true ht, List.take_length]
  have hlen : l.length = len (val l) := by rw [← length_dig, hd]
  have hbn : b = ng (sg b (val l)) := by
    rw [sg_ng]
    cases b
    · rfl
    · rw [Bool.not_true, Bool.false_or, decide_eq_true_iff] at hb
      rw [Bool.true_and]
      refine (decide_eq_true (Nat.pos_of_ne_zero fun h0 => ?_)).symm
      rw [h0, len_zero] at hlen
      omega
  have ha : (sg b (val l)).natAbs = val l := sg_abs b (val l)
  refine ⟨_, rfl, hbn, ?_, by rw [ha]; exact hn, ?_⟩
  · unfold zl
    rw [ha, ← hlen]
    exact h.len.symm
  · have h1 := dval_any (sg b (val l)) e
    rw [← hbn, ha, hd, hv0] at h1
    unfold Dv
    by_cases h0 : sg b (val l) = 0
    · rw [if_pos h0] at h1
      exact Or.inl ⟨h0, of_decide_eq_true h1.symm⟩
    · rw [if_neg h0] at h1
      exact Or.inr ⟨h0, h1.symm⟩

set_option maxHeartbeats 4000000 in
theorem r10valid_any (m e n f : Int) (vx : Value) (w : World) (hx : IsI w vx m e n f) (lm : zl m ≤ 1000) (ln : zl n ≤ 1000) (he : -70000 ≤ e ∧ e ≤ 70000) (hf : -70000 ≤ f ∧ f ≤ 70000) (hv : Dv m e) (hv2 : Dv n f) :
    Calls Try.prog 11 #[vx] w (RetB w (decide (dcm m e n f ≤ 0))) := by
  obtain ⟨A, c, B, d, rfl, hn1, hn2⟩ := hx.form
  have L0 := ((Lq.mk0 w).n hn2).n hn1
  have hok : ∀ m e : Int, Dv m e → (if m = 0 then decide (e = 0) else fits8 m e) = true := fun m e h => by
    rcases h with ⟨h1, h2⟩ | ⟨h1, h2⟩
    · rw [if_pos h1, h2]; rfl
    · rw [if_neg h1, h2]
  have v1 := fun v W h => rvalid8_d m e v W h (by omega)
  have v2 := fun v W h => rvalid8_d n f v W h (by omega)
  rw [hok m e hv] at v1
  rw [hok n f hv2] at v2
  have V1 := Lib.hid v1
  have V2 := Lib.hid v2
  have H10 := fun v u W h1 h2 => rcmp8_any m e n f v u W h1 h2 (by omega) (by omega) (by omega) (by omega)
  obtain ⟨x1, hx1⟩ : ∃ x, dcm m e n f = x := ⟨_, rfl⟩
  unfold dcm at hx1
  rw [hx1] at H10
  have H1 := Lib.hid H10
  clear H10
  show Calls _ _ _ _ (RetB w (decide (cmpI (m * 2 ^ (e - min e f).toNat) (n * 2 ^ (f - min e f).toNat) ≤ 0)))
  rw [hx1]
  clear v1 v2 hok hx hn1 hn2 hx1 lm ln he hf hv hv2
  go_enter Try.func11, Try.ntmps11
  go_wp2_with fail
  have L := (L0.varI (w.heap.size) (by simp) (ng m) A (zl m) c e (ng n) B (zl n) d f)
  have c00 := L.b0.c60
  have c01 := L.b0.c61
  have c02 := L.b0.c62
  have c03 := L.b0.c63
  have c04 := L.b0.c64
  have c05 := L.b0.c65
  (try go_wp2_with fail)
  refine (V1.out _ _ (isD_n (m := m) (e := e) (s := .slice A (zl m) c) (L.getN (v := .slice A (zl m) c) (x := (m).natAbs) (by simp)))).mono ?_
  rintro e w1 ⟨rfl, be⟩
  clear c00 c01 c02 c03 c04 c05
  replace L := L.step be
  clear be
  have c00 := L.b0.c60
  have c01 := L.b0.c61
  have c02 := L.b0.c62
  have c03 := L.b0.c63
  have c04 := L.b0.c64
  have c05 := L.b0.c65
  (try go_wp2_with fail)
  refine (V2.out _ _ (isD_n (m := n) (e := f) (s := .slice B (zl n) d) (L.getN (v := .slice B (zl n) d) (x := (n).natAbs) (by simp)))).mono ?_
  rintro e w2 ⟨rfl, be⟩
  clear c00 c01 c02 c03 c04 c05
  replace L := L.step be
  clear be
  have c00 := L.b0.c60
  have c01 := L.b0.c61
  have c02 := L.b0.c62
  have c03 := L.b0.c63
  have c04 := L.b0.c64
  have c05 := L.b0.c65
  (try go_wp2_with fail)
  refine (H1.out _ _ _ (isD_n (m := m) (e := e) (s := .slice A (zl m) c) (L.getN (v := .slice A (zl m) c) (x := (m).natAbs) (by simp))) (isD_n (m := n) (e := f) (s := .slice B (zl n) d) (L.getN (v := .slice B (zl n) d) (x := (n).natAbs) (by simp)))).mono ?_
  rintro e w3 ⟨rfl, be⟩
  clear c00 c01 c02 c03 c04 c05
  replace L := L.step be
  clear be
  have c00 := L.b0.c60
  have c01 := L.b0.c61
  have c02 := L.b0.c62
  have c03 := L.b0.c63
  have c04 := L.b0.c64
  have c05 := L.b0.c65
  (try go_wp2_with fail)
  go_ret
  exact ⟨rfl, L.below⟩
set_option maxHeartbeats 4000000 in
theorem r10raw_any (b b' : Bool) (l l' : List Nat) (A A' : Option Addr) (p c p' c' : Nat) (e e' : Int) (w : World) (h : Sl w A p c l) (h' : Sl w A' p' c' l') (hp : p ≤ 20) (hp' : p' ≤ 20) :
    Calls Try.prog 11 #[.agg #[.bool b, .slice A p c, .int .i64 e, .bool b', .slice A' p' c', .int .i64 e']] w (RetB w (dval b l e && (dval b' l' e' && decide (dcm (sg b (val l)) e (sg b' (val l')) e' ≤ 0)))) := by
  have V1 := Lib.hid (fun W (hW : Below w.heap.size w W) => rvalid8_any b l A p c e W (h.mono hW) (by omega))
  have V2 := Lib.hid (fun W (hW : Below w.heap.size w W) => rvalid8_any b' l' A' p' c' e' W (h'.mono hW) (by omega))
  cases d1 : dval b l e
  · rw [Bool.false_and]
    rw [d1] at V1
    clear d1 h h' hp hp'
    go_enter Try.func11, Try.ntmps11
    go_wp2_with fail
    have L := ((Lq.mk0 w).varI (w.heap.size) (by simp) b A p c e b' A' p' c' e')
    have c00 := L.b0.c60
    have c01 := L.b0.c61
    have c02 := L.b0.c62
    have c03 := L.b0.c63
    have c04 := L.b0.c64
    have c05 := L.b0.c65
    (try go_wp2_with fail)
    refine (V1.out _ L.below).mono ?_
    rintro e w1 ⟨rfl, be⟩
    clear c00 c01 c02 c03 c04 c05
    replace L := L.step be
    clear be
    have c00 := L.b0.c60
    have c01 := L.b0.c61
    have c02 := L.b0.c62
    have c03 := L.b0.c63
    have c04 := L.b0.c64
    have c05 := L.b0.c65
    (try go_wp2_with fail)
    go_ret
    exact ⟨rfl, L.below⟩
  · rw [Bool.true_and]
    cases d2 : dval b' l' e'
    · rw [Bool.false_and]
      rw [d1] at V1
      rw [d2] at V2
      clear d1 d2 h h' hp hp'
      go_enter Try.func11, Try.ntmps11
      go_wp2_with fail
      have L := ((Lq.mk0 w).varI (w.heap.size) (by simp) b A p c e b' A' p' c' e')
      have c00 := L.b0.c60
      have c01 := L.b0.c61
      have c02 := L.b0.c62
      have c03 := L.b0.c63
      have c04 := L.b0.c64
      have c05 := L.b0.c65
      (try go_wp2_with fail)
      refine (V1.out _ L.below).mono ?_
      rintro e w1 ⟨rfl, be⟩
      clear c00 c01 c02 c03 c04 c05
      replace L := L.step be
      clear be
      have c00 := L.b0.c60
      have c01 := L.b0.c61
      have c02 := L.b0.c62
      have c03 := L.b0.c63
      have c04 := L.b0.c64
      have c05 := L.b0.c65
      (try go_wp2_with fail)
      refine (V2.out _ L.below).mono ?_
      rintro e w2 ⟨rfl, be⟩
      clear c00 c01 c02 c03 c04 c05
      replace L := L.step be
      clear be
      have c00 := L.b0.c60
      have c01 := L.b0.c61
      have c02 := L.b0.c62
      have c03 := L.b0.c63
      have c04 := L.b0.c64
      have c05 := L.b0.c65
      (try go_wp2_with fail)
      go_ret
      exact ⟨rfl, L.below⟩
    · rw [Bool.true_and]
      obtain ⟨m, r1, r2, r3, r4, r5⟩ := dval_pair h d1
      obtain ⟨n, r6, r7, r8, r9, r10⟩ := dval_pair h' d2
      rw [r1, r6]
      have x1 := dv_bound r5
      have x2 := dv_bound r10
      clear V1 V2 d1 d2 h h' r1 r6
      subst r2 r7 r3 r8
      exact r10valid_any m e n e' _ w (isI_n r4 r9) (by omega) (by omega) (by omega) (by omega) r5 r10
set_option maxHeartbeats 4000000 in
theorem r10within_any (m e n f m2 e2 n2 f2 : Int) (vx vy : Value) (w : World) (hx : IsI w vx m e n f) (hy : IsI w vy m2 e2 n2 f2) (lm : zl m ≤ 1000) (ln : zl n ≤ 1000) (lm2 : zl m2 ≤ 1000) (ln2 : zl n2 ≤ 1000) (he : -20000 ≤ e ∧ e ≤ 20000) (hf : -20000 ≤ f ∧ f ≤ 20000) (he2 : -20000 ≤ e2 ∧ e2 ≤ 20000) (hf2 : -20000 ≤ f2 ∧ f2 ≤ 20000) :
    Calls Try.prog 21 #[vx, vy] w (RetB w (inB m e n f m2 e2 n2 f2)) := by
  obtain ⟨A, c, B, d, rfl, hn1, hn2⟩ := hx.form
  obtain ⟨A2, k2, B2, d2, rfl, hn3, hn4⟩ := hy.form
  have L0 := ((((Lq.mk0 w).n hn4).n hn3).n hn2).n hn1
  obtain ⟨r, hr⟩ : ∃ r, inB m e n f m2 e2 n2 f2 = r := ⟨_, rfl⟩
  rw [hr]
  unfold inB dcm at hr
  have H10 := fun v u W h1 h2 => rcmp8_any m2 e2 m e v u W h1 h2 (by omega) (by omega) (by omega) (by omega)
  obtain ⟨x1, hx1⟩ : ∃ x, dcm m2 e2 m e = x := ⟨_, rfl⟩
  unfold dcm at hx1
  rw [hx1] at H10
  have H1 := Lib.hid H10
  clear H10
  have H20 := fun v u W h1 h2 => rcmp8_any n f n2 f2 v u W h1 h2 (by omega) (by omega) (by omega) (by omega)
  obtain ⟨x2, hx2⟩ : ∃ x, dcm n f n2 f2 = x := ⟨_, rfl⟩
  unfold dcm at hx2
  rw [hx2] at H20
  have H2 := Lib.hid H20
  clear H20
  rw [hx1, hx2] at hr
  clear hx hy hn1 hn2 hn3 hn4 hx1 hx2 lm ln lm2 ln2 he hf he2 hf2
  by_cases q : x1 ≤ 0
  · have b1 : decide (x1 ≤ 0) = true := decide_eq_true q
    rw [b1, Bool.true_and] at hr
    clear q
    go_enter Try.func21, Try.ntmps21
    go_wp2_with fail
    have L := ((L0.varI (w.heap.size) (by simp) (ng m) A (zl m) c e (ng n) B (zl n) d f).varI (w.heap.size + 1) (by simp) (ng m2) A2 (zl m2) k2 e2 (ng n2) B2 (zl n2) d2 f2)
    have c00 := L.b0.c60
    have c01 := L.b0.c61
    have c02 := L.b0.c62
    have c03 := L.b0.c63
    have c04 := L.b0.c64
    have c05 := L.b0.c65
    have c10 := L.tl.b0.c60
    have c11 := L.tl.b0.c61
    have c12 := L.tl.b0.c62
    have c13 := L.tl.b0.c63
    have c14 := L.tl.b0.c64
    have c15 := L.tl.b0.c65
    (try go_wp2_with fail)
    refine (H1.out _ _ _ (isD_n (m := m2) (e := e2) (s := .slice A2 (zl m2) k2) (L.getN (v := .slice A2 (zl m2) k2) (x := (m2).natAbs) (by simp))) (isD_n (m := m) (e := e) (s := .slice A (zl m) c) (L.getN (v := .slice A (zl m) c) (x := (m).natAbs) (by simp)))).mono ?_
    rintro e w1 ⟨rfl, be⟩
    clear c00 c01 c02 c03 c04 c05 c10 c11 c12 c13 c14 c15
    replace L := L.step be
    clear be
    have c00 := L.b0.c60
    have c01 := L.b0.c61
    have c02 := L.b0.c62
    have c03 := L.b0.c63
    have c04 := L.b0.c64
    have c05 := L.b0.c65
    have c10 := L.tl.b0.c60
    have c11 := L.tl.b0.c61
    have c12 := L.tl.b0.c62
    have c13 := L.tl.b0.c63
    have c14 := L.tl.b0.c64
    have c15 := L.tl.b0.c65
    (try go_wp2_with fail)
    refine (H2.out _ _ _ (isD_n (m := n) (e := f) (s := .slice B (zl n) d) (L.getN (v := .slice B (zl n) d) (x := (n).natAbs) (by simp))) (isD_n (m := n2) (e := f2) (s := .slice B2 (zl n2) d2) (L.getN (v := .slice B2 (zl n2) d2) (x := (n2).natAbs) (by simp)))).mono ?_
    rintro e w2 ⟨rfl, be⟩
    clear c00 c01 c02 c03 c04 c05 c10 c11 c12 c13 c14 c15
    replace L := L.step be
    clear be
    (try go_wp2_with fail)
    rw [← hr]
    go_ret
    exact ⟨rfl, L.below⟩
  · have b1 : decide (x1 ≤ 0) = false := decide_eq_false q
    rw [b1, Bool.false_and] at hr
    subst hr
    clear q
    go_enter Try.func21, Try.ntmps21
    go_wp2_with fail
    have L := ((L0.varI (w.heap.size) (by simp) (ng m) A (zl m) c e (ng n) B (zl n) d f).varI (w.heap.size + 1) (by simp) (ng m2) A2 (zl m2) k2 e2 (ng n2) B2 (zl n2) d2 f2)
    have c00 := L.b0.c60
    have c01 := L.b0.c61
    have c02 := L.b0.c62
    have c03 := L.b0.c63
    have c04 := L.b0.c64
    have c05 := L.b0.c65
    have c10 := L.tl.b0.c60
    have c11 := L.tl.b0.c61
    have c12 := L.tl.b0.c62
    have c13 := L.tl.b0.c63
    have c14 := L.tl.b0.c64
    have c15 := L.tl.b0.c65
    (try go_wp2_with fail)
    refine (H1.out _ _ _ (isD_n (m := m2) (e := e2) (s := .slice A2 (zl m2) k2) (L.getN (v := .slice A2 (zl m2) k2) (x := (m2).natAbs) (by simp))) (isD_n (m := m) (e := e) (s := .slice A (zl m) c) (L.getN (v := .slice A (zl m) c) (x := (m).natAbs) (by simp)))).mono ?_
    rintro e w1 ⟨rfl, be⟩
    clear c00 c01 c02 c03 c04 c05 c10 c11 c12 c13 c14 c15
    replace L := L.step be
    clear be
    have c00 := L.b0.c60
    have c01 := L.b0.c61
    have c02 := L.b0.c62
    have c03 := L.b0.c63
    have c04 := L.b0.c64
    have c05 := L.b0.c65
    have c10 := L.tl.b0.c60
    have c11 := L.tl.b0.c61
    have c12 := L.tl.b0.c62
    have c13 := L.tl.b0.c63
    have c14 := L.tl.b0.c64
    have c15 := L.tl.b0.c65
    (try go_wp2_with fail)
    go_ret
    exact ⟨rfl, L.below⟩
set_option maxHeartbeats 4000000 in
theorem r10cmp_any (m e n f m2 e2 n2 f2 : Int) (vx vy : Value) (w : World) (hx : IsI w vx m e n f) (hy : IsI w vy m2 e2 n2 f2) (lm : zl m ≤ 1000) (ln : zl n ≤ 1000) (lm2 : zl m2 ≤ 1000) (ln2 : zl n2 ≤ 1000) (he : -20000 ≤ e ∧ e ≤ 20000) (hf : -20000 ≤ f ∧ f ≤ 20000) (he2 : -20000 ≤ e2 ∧ e2 ≤ 20000) (hf2 : -20000 ≤ f2 ∧ f2 ≤ 20000) :
    Calls Try.prog 30 #[vx, vy] w (RetI w (icm m e n f m2 e2 n2 f2)) := by
  obtain ⟨A, c, B, d, rfl, hn1, hn2⟩ := hx.form
  obtain ⟨A2, k2, B2, d2, rfl, hn3, hn4⟩ := hy.form
  have L0 := ((((Lq.mk0 w).n hn4).n hn3).n hn2).n hn1
  obtain ⟨r, hr⟩ : ∃ r, icm m e n f m2 e2 n2 f2 = r := ⟨_, rfl⟩
  rw [hr]
  unfold icm dcm at hr
  have H10 := fun v u W h1 h2 => rcmp8_any n f m2 e2 v u W h1 h2 (by omega) (by omega) (by omega) (by omega)
  obtain ⟨x1, hx1⟩ : ∃ x, dcm n f m2 e2 = x := ⟨_, rfl⟩
  unfold dcm at hx1
  rw [hx1] at H10
  have H1 := Lib.hid H10
  clear H10
  have H20 := fun v u W h1 h2 => rcmp8_any m e n2 f2 v u W h1 h2 (by omega) (by omega) (by omega) (by omega)
  obtain ⟨x2, hx2⟩ : ∃ x, dcm m e n2 f2 = x := ⟨_, rfl⟩
  unfold dcm at hx2
  rw [hx2] at H20
  have H2 := Lib.hid H20
  clear H20
  rw [hx1, hx2] at hr
  clear hx hy hn1 hn2 hn3 hn4 hx1 hx2 lm ln lm2 ln2 he hf he2 hf2
  by_cases q : x1 < 0
  · have b1 : decide (x1 < 0) = true := decide_eq_true q
    rw [if_pos q] at hr
    subst hr
    clear q
    go_enter Try.func30, Try.ntmps30
    go_wp2_with fail
    have L := ((L0.varI (w.heap.size) (by simp) (ng m) A (zl m) c e (ng n) B (zl n) d f).varI (w.heap.size + 1) (by simp) (ng m2) A2 (zl m2) k2 e2 (ng n2) B2 (zl n2) d2 f2)
    have c00 := L.b0.c60
    have c01 := L.b0.c61
    have c02 := L.b0.c62
    have c03 := L.b0.c63
    have c04 := L.b0.c64
    have c05 := L.b0.c65
    have c10 := L.tl.b0.c60
    have c11 := L.tl.b0.c61
    have c12 := L.tl.b0.c62
    have c13 := L.tl.b0.c63
    have c14 := L.tl.b0.c64
    have c15 := L.tl.b0.c65
    (try go_wp2_with fail)
    refine (H1.out _ _ _ (isD_n (m := n) (e := f) (s := .slice B (zl n) d) (L.getN (v := .slice B (zl n) d) (x := (n).natAbs) (by simp))) (isD_n (m := m2) (e := e2) (s := .slice A2 (zl m2) k2) (L.getN (v := .slice A2 (zl m2) k2) (x := (m2).natAbs) (by simp)))).mono ?_
    rintro e w1 ⟨rfl, be⟩
    clear c00 c01 c02 c03 c04 c05 c10 c11 c12 c13 c14 c15
    replace L := L.step be
    clear be
    have c00 := L.b0.c60
    have c01 := L.b0.c61
    have c02 := L.b0.c62
    have c03 := L.b0.c63
    have c04 := L.b0.c64
    have c05 := L.b0.c65
    have c10 := L.tl.b0.c60
    have c11 := L.tl.b0.c61
    have c12 := L.tl.b0.c62
    have c13 := L.tl.b0.c63
    have c14 := L.tl.b0.c64
    have c15 := L.tl.b0.c65
    (try go_wp2_with fail)
    go_ret
    exact ⟨rfl, L.below⟩
  · have b1 : decide (x1 < 0) = false := decide_eq_false q
    rw [if_neg q] at hr
    clear q
    by_cases q : 0 < x2
    · have b2 : decide (0 < x2) = true := decide_eq_true q
      rw [if_pos q] at hr
      subst hr
      clear q
      go_enter Try.func30, Try.ntmps30
      go_wp2_with fail
      have L := ((L0.varI (w.heap.size) (by simp) (ng m) A (zl m) c e (ng n) B (zl n) d f).varI (w.heap.size + 1) (by simp) (ng m2) A2 (zl m2) k2 e2 (ng n2) B2 (zl n2) d2 f2)
      have c00 := L.b0.c60
      have c01 := L.b0.c61
      have c02 := L.b0.c62
      have c03 := L.b0.c63
      have c04 := L.b0.c64
      have c05 := L.b0.c65
      have c10 := L.tl.b0.c60
      have c11 := L.tl.b0.c61
      have c12 := L.tl.b0.c62
      have c13 := L.tl.b0.c63
      have c14 := L.tl.b0.c64
      have c15 := L.tl.b0.c65
      (try go_wp2_with fail)
      refine (H1.out _ _ _ (isD_n (m := n) (e := f) (s := .slice B (zl n) d) (L.getN (v := .slice B (zl n) d) (x := (n).natAbs) (by simp))) (isD_n (m := m2) (e := e2) (s := .slice A2 (zl m2) k2) (L.getN (v := .slice A2 (zl m2) k2) (x := (m2).natAbs) (by simp)))).mono ?_
      rintro e w1 ⟨rfl, be⟩
      clear c00 c01 c02 c03 c04 c05 c10 c11 c12 c13 c14 c15
      replace L := L.step be
      clear be
      have c00 := L.b0.c60
      have c01 := L.b0.c61
      have c02 := L.b0.c62
      have c03 := L.b0.c63
      have c04 := L.b0.c64
      have c05 := L.b0.c65
      have c10 := L.tl.b0.c60
      have c11 := L.tl.b0.c61
      have c12 := L.tl.b0.c62
      have c13 := L.tl.b0.c63
      have c14 := L.tl.b0.c64
      have c15 := L.tl.b0.c65
      (try go_wp2_with fail)
      refine (H2.out _ _ _ (isD_n (m := m) (e := e) (s := .slice A (zl m) c) (L.getN (v := .slice A (zl m) c) (x := (m).natAbs) (by simp))) (isD_n (m := n2) (e := f2) (s := .slice B2 (zl n2) d2) (L.getN (v := .slice B2 (zl n2) d2) (x := (n2).natAbs) (by simp)))).mono ?_
      rintro e w2 ⟨rfl, be⟩
      clear c00 c01 c02 c03 c04 c05 c10 c11 c12 c13 c14 c15
      replace L := L.step be
      clear be
      (try go_wp2_with fail)
      go_ret
      exact ⟨rfl, L.below⟩
    · have b2 : decide (0 < x2) = false := decide_eq_false q
      rw [if_neg q] at hr
      subst hr
      clear q
      go_enter Try.func30, Try.ntmps30
      go_wp2_with fail
      have L := ((L0.varI (w.heap.size) (by simp) (ng m) A (zl m) c e (ng n) B (zl n) d f).varI (w.heap.size + 1) (by simp) (ng m2) A2 (zl m2) k2 e2 (ng n2) B2 (zl n2) d2 f2)
      have c00 := L.b0.c60
      have c01 := L.b0.c61
      have c02 := L.b0.c62
      have c03 := L.b0.c63
      have c04 := L.b0.c64
      have c05 := L.b0.c65
      have c10 := L.tl.b0.c60
      have c11 := L.tl.b0.c61
      have c12 := L.tl.b0.c62
      have c13 := L.tl.b0.c63
      have c14 := L.tl.b0.c64
      have c15 := L.tl.b0.c65
      (try go_wp2_with fail)
      refine (H1.out _ _ _ (isD_n (m := n) (e := f) (s := .slice B (zl n) d) (L.getN (v := .slice B (zl n) d) (x := (n).natAbs) (by simp))) (isD_n (m := m2) (e := e2) (s := .slice A2 (zl m2) k2) (L.getN (v := .slice A2 (zl m2) k2) (x := (m2).natAbs) (by simp)))).mono ?_
      rintro e w1 ⟨rfl, be⟩
      clear c00 c01 c02 c03 c04 c05 c10 c11 c12 c13 c14 c15
      replace L := L.step be
      clear be
      have c00 := L.b0.c60
      have c01 := L.b0.c61
      have c02 := L.b0.c62
      have c03 := L.b0.c63
      have c04 := L.b0.c64
      have c05 := L.b0.c65
      have c10 := L.tl.b0.c60
      have c11 := L.tl.b0.c61
      have c12 := L.tl.b0.c62
      have c13 := L.tl.b0.c63
      have c14 := L.tl.b0.c64
      have c15 := L.tl.b0.c65
      (try go_wp2_with fail)
      refine (H2.out _ _ _ (isD_n (m := m) (e := e) (s := .slice A (zl m) c) (L.getN (v := .slice A (zl m) c) (x := (m).natAbs) (by simp))) (isD_n (m := n2) (e := f2) (s := .slice B2 (zl n2) d2) (L.getN (v := .slice B2 (zl n2) d2) (x := (n2).natAbs) (by simp)))).mono ?_
      rintro e w2 ⟨rfl, be⟩
      clear c00 c01 c02 c03 c04 c05 c10 c11 c12 c13 c14 c15
      replace L := L.step be
      clear be
      (try go_wp2_with fail)
      go_ret
      exact ⟨rfl, L.below⟩
set_option maxHeartbeats 4000000 in
theorem r10sign_any (m e n f : Int) (vx : Value) (w : World) (hx : IsI w vx m e n f) (lm : zl m ≤ 1000) (ln : zl n ≤ 1000) (he : -20000 ≤ e ∧ e ≤ 20000) (hf : -20000 ≤ f ∧ f ≤ 20000) :
    Calls Try.prog 29 #[vx] w (RetSg w m n) := by
  obtain ⟨A, c, B, d, rfl, hn1, hn2⟩ := hx.form
  have L0 := ((Lq.mk0 w).n hn2).n hn1
  have s1 := fun v W h => rsign8_any m e v W h (by omega)
  have s2 := fun v W h => rsign8_any n f v W h (by omega)
  unfold RetSg
  obtain ⟨x1, hx1⟩ : ∃ x, cmpI m 0 = x := ⟨_, rfl⟩
  obtain ⟨x2, hx2⟩ : ∃ x, cmpI n 0 = x := ⟨_, rfl⟩
  rw [hx1] at s1
  rw [hx2] at s2
  rw [hx1, hx2]
  have S1 := Lib.hid s1
  have S2 := Lib.hid s2
  clear s1 s2 hx hn1 hn2 hx1 hx2 lm ln he hf
  by_cases q : x1 = x2
  · subst q
    rw [if_pos rfl, decide_eq_true rfl]
    have b1 : (x1 == x1) = true := by simp
    have b2 : (x1 != x1) = false := by simp
    go_enter Try.func29, Try.ntmps29
    go_wp2_with fail
    have L := (L0.varI (w.heap.size) (by simp) (ng m) A (zl m) c e (ng n) B (zl n) d f)
    have c00 := L.b0.c60
    have c01 := L.b0.c61
    have c02 := L.b0.c62
    have c03 := L.b0.c63
    have c04 := L.b0.c64
    have c05 := L.b0.c65
    (try go_wp2_with fail)
    refine (S1.out _ _ (isD_n (m := m) (e := e) (s := .slice A (zl m) c) (L.getN (v := .slice A (zl m) c) (x := (m).natAbs) (by simp)))).mono ?_
    rintro e w1 ⟨rfl, be⟩
    clear c00 c01 c02 c03 c04 c05
    replace L := L.step be
    clear be
    have c00 := L.b0.c60
    have c01 := L.b0.c61
    have c02 := L.b0.c62
    have c03 := L.b0.c63
    have c04 := L.b0.c64
    have c05 := L.b0.c65
    (try go_wp2_with fail)
    refine (S2.out _ _ (isD_n (m := n) (e := f) (s := .slice B (zl n) d) (L.getN (v := .slice B (zl n) d) (x := (n).natAbs) (by simp)))).mono ?_
    rintro e w2 ⟨rfl, be⟩
    clear c00 c01 c02 c03 c04 c05
    replace L := L.step be
    clear be
    have c00 := L.b0.c60
    have c01 := L.b0.c61
    have c02 := L.b0.c62
    have c03 := L.b0.c63
    have c04 := L.b0.c64
    have c05 := L.b0.c65
    (try go_wp2_with fail)
    go_ret2
    exact ⟨rfl, L.below⟩
  · rw [if_neg q, decide_eq_false q]
    have b1 : (x1 == x2) = false := by simpa using q
    have b2 : (x1 != x2) = true := by simpa using q
    go_enter Try.func29, Try.ntmps29
    go_wp2_with fail
    have L := (L0.varI (w.heap.size) (by simp) (ng m) A (zl m) c e (ng n) B (zl n) d f)
    have c00 := L.b0.c60
    have c01 := L.b0.c61
    have c02 := L.b0.c62
    have c03 := L.b0.c63
    have c04 := L.b0.c64
    have c05 := L.b0.c65
    (try go_wp2_with fail)
    refine (S1.out _ _ (isD_n (m := m) (e := e) (s := .slice A (zl m) c) (L.getN (v := .slice A (zl m) c) (x := (m).natAbs) (by simp)))).mono ?_
    rintro e w1 ⟨rfl, be⟩
    clear c00 c01 c02 c03 c04 c05
    replace L := L.step be
    clear be
    have c00 := L.b0.c60
    have c01 := L.b0.c61
    have c02 := L.b0.c62
    have c03 := L.b0.c63
    have c04 := L.b0.c64
    have c05 := L.b0.c65
    (try go_wp2_with fail)
    refine (S2.out _ _ (isD_n (m := n) (e := f) (s := .slice B (zl n) d) (L.getN (v := .slice B (zl n) d) (x := (n).natAbs) (by simp)))).mono ?_
    rintro e w2 ⟨rfl, be⟩
    clear c00 c01 c02 c03 c04 c05
    replace L := L.step be
    clear be
    have c00 := L.b0.c60
    have c01 := L.b0.c61
    have c02 := L.b0.c62
    have c03 := L.b0.c63
    have c04 := L.b0.c64
    have c05 := L.b0.c65
    (try go_wp2_with fail)
    go_ret2
    exact ⟨rfl, L.below⟩
set_option maxHeartbeats 4000000 in
theorem r10same_any (m e n f m2 e2 n2 f2 : Int) (vx vy : Value) (w : World) (hx : IsI w vx m e n f) (hy : IsI w vy m2 e2 n2 f2) (lm : zl m ≤ 1000) (ln : zl n ≤ 1000) (lm2 : zl m2 ≤ 1000) (ln2 : zl n2 ≤ 1000) (he : -20000 ≤ e ∧ e ≤ 20000) (hf : -20000 ≤ f ∧ f ≤ 20000) (he2 : -20000 ≤ e2 ∧ e2 ≤ 20000) (hf2 : -20000 ≤ f2 ∧ f2 ≤ 20000) :
    Calls Try.prog 14 #[vx, vy] w (RetB w ((decide (e = e2) && decide (m = m2)) && (decide (f = f2) && decide (n = n2)))) := by
  obtain ⟨A, c, B, d, rfl, hn1, hn2⟩ := hx.form
  obtain ⟨A2, k2, B2, d2, rfl, hn3, hn4⟩ := hy.form
  have L0 := ((((Lq.mk0 w).n hn4).n hn3).n hn2).n hn1
  have H1 := Lib.hid (fun v u W h1 h2 => same8_any m e m2 e2 v u W h1 h2)
  have H2 := Lib.hid (fun v u W h1 h2 => same8_any n f n2 f2 v u W h1 h2)
  generalize (decide (e = e2) && decide (m = m2)) = r1 at *
  generalize (decide (f = f2) && decide (n = n2)) = r2 at *
  clear hx hy hn1 hn2 hn3 hn4 lm ln lm2 ln2 he hf he2 hf2
  cases r1
  · rw [Bool.false_and]
    go_enter Try.func14, Try.ntmps14
    go_wp2_with fail
    have L := ((L0.varI (w.heap.size) (by simp) (ng m) A (zl m) c e (ng n) B (zl n) d f).varI (w.heap.size + 1) (by simp) (ng m2) A2 (zl m2) k2 e2 (ng n2) B2 (zl n2) d2 f2)
    have c00 := L.b0.c60
    have c01 := L.b0.c61
    have c02 := L.b0.c62
    have c03 := L.b0.c63
    have c04 := L.b0.c64
    have c05 := L.b0.c65
    have c10 := L.tl.b0.c60
    have c11 := L.tl.b0.c61
    have c12 := L.tl.b0.c62
    have c13 := L.tl.b0.c63
    have c14 := L.tl.b0.c64
    have c15 := L.tl.b0.c65
    (try go_wp2_with fail)
    refine (H1.out _ _ _ (isD_n (m := m) (e := e) (s := .slice A (zl m) c) (L.getN (v := .slice A (zl m) c) (x := (m).natAbs) (by simp))) (isD_n (m := m2) (e := e2) (s := .slice A2 (zl m2) k2) (L.getN (v := .slice A2 (zl m2) k2) (x := (m2).natAbs) (by simp)))).mono ?_
    rintro e w1 ⟨rfl, be⟩
    clear c00 c01 c02 c03 c04 c05 c10 c11 c12 c13 c14 c15
    replace L := L.step be
    clear be
    have c00 := L.b0.c60
    have c01 := L.b0.c61
    have c02 := L.b0.c62
    have c03 := L.b0.c63
    have c04 := L.b0.c64
    have c05 := L.b0.c65
    have c10 := L.tl.b0.c60
    have c11 := L.tl.b0.c61
    have c12 := L.tl.b0.c62
    have c13 := L.tl.b0.c63
    have c14 := L.tl.b0.c64
    have c15 := L.tl.b0.c65
    (try go_wp2_with fail)
    go_ret
    exact ⟨rfl, L.below⟩
  · rw [Bool.true_and]
    go_enter Try.func14, Try.ntmps14
    go_wp2_with fail
    have L := ((L0.varI (w.heap.size) (by simp) (ng m) A (zl m) c e (ng n) B (zl n) d f).varI (w.heap.size + 1) (by simp) (ng m2) A2 (zl m2) k2 e2 (ng n2) B2 (zl n2) d2 f2)
    have c00 := L.b0.c60
    have c01 := L.b0.c61
    have c02 := L.b0.c62
    have c03 := L.b0.c63
    have c04 := L.b0.c64
    have c05 := L.b0.c65
    have c10 := L.tl.b0.c60
    have c11 := L.tl.b0.c61
    have c12 := L.tl.b0.c62
    have c13 := L.tl.b0.c63
    have c14 := L.tl.b0.c64
    have c15 := L.tl.b0.c65
    (try go_wp2_with fail)
    refine (H1.out _ _ _ (isD_n (m := m) (e := e) (s := .slice A (zl m) c) (L.getN (v := .slice A (zl m) c) (x := (m).natAbs) (by simp))) (isD_n (m := m2) (e := e2) (s := .slice A2 (zl m2) k2) (L.getN (v := .slice A2 (zl m2) k2) (x := (m2).natAbs) (by simp)))).mono ?_
    rintro e w1 ⟨rfl, be⟩
    clear c00 c01 c02 c03 c04 c05 c10 c11 c12 c13 c14 c15
    replace L := L.step be
    clear be
    have c00 := L.b0.c60
    have c01 := L.b0.c61
    have c02 := L.b0.c62
    have c03 := L.b0.c63
    have c04 := L.b0.c64
    have c05 := L.b0.c65
    have c10 := L.tl.b0.c60
    have c11 := L.tl.b0.c61
    have c12 := L.tl.b0.c62
    have c13 := L.tl.b0.c63
    have c14 := L.tl.b0.c64
    have c15 := L.tl.b0.c65
    (try go_wp2_with fail)
    refine (H2.out _ _ _ (isD_n (m := n) (e := f) (s := .slice B (zl n) d) (L.getN (v := .slice B (zl n) d) (x := (n).natAbs) (by simp))) (isD_n (m := n2) (e := f2) (s := .slice B2 (zl n2) d2) (L.getN (v := .slice B2 (zl n2) d2) (x := (n2).natAbs) (by simp)))).mono ?_
    rintro e w2 ⟨rfl, be⟩
    clear c00 c01 c02 c03 c04 c05 c10 c11 c12 c13 c14 c15
    replace L := L.step be
    clear be
    (try go_wp2_with fail)
    go_ret
    exact ⟨rfl, L.below⟩
set_option maxHeartbeats 4000000 in
theorem r10least_any (m e n f : Int) (vx vy : Value) (w : World) (hx : IsD w vx m e) (hy : IsD w vy n f) (lm : zl m ≤ 1000) (ln : zl n ≤ 1000) (he : -20000 ≤ e ∧ e ≤ 20000) (hf : -20000 ≤ f ∧ f ≤ 20000) :
    Calls Try.prog 57 #[vx, vy] w (RetD8 w (lstD m e n f).1 (lstD m e n f).2) := by
  obtain ⟨A, c, rfl, _, hn1⟩ := hx.form
  obtain ⟨B, d, rfl, _, hn2⟩ := hy.form
  have L0 := ((Lq.mk0 w).n hn2).n hn1
  obtain ⟨r, hr⟩ : ∃ r, lstD m e n f = r := ⟨_, rfl⟩
  rw [hr]
  unfold lstD dcm at hr
  have H10 := fun v u W h1 h2 => rcmp8_any m e n f v u W h1 h2 (by omega) (by omega) (by omega) (by omega)
  obtain ⟨x1, hx1⟩ : ∃ x, dcm m e n f = x := ⟨_, rfl⟩
  unfold dcm at hx1
  rw [hx1] at H10
  have H1 := Lib.hid H10
  clear H10
  rw [hx1] at hr
  clear hx hy hn1 hn2 hx1 lm ln he hf
  by_cases q : x1 ≤ 0
  · have b1 : decide (x1 ≤ 0) = true := decide_eq_true q
    rw [if_pos q] at hr
    subst hr
    clear q
    go_enter Try.func57, Try.ntmps57
    go_wp2_with fail
    have L := (((L0.varD (w.heap.size) (by simp) (ng m) A (zl m) c e).varD (w.heap.size + 1) (by simp) (ng n) B (zl n) d f).varD (w.heap.size + 2) (by simp) false none 0 0 0)
    have c00 := L.b0.c30
    have f00 := L.b0.fr 0
    have c01 := L.b0.c31
    have f01 := L.b0.fr 1
    have c02 := L.b0.c32
    have f02 := L.b0.fr 2
    have c10 := L.tl.b0.c30
    have c11 := L.tl.b0.c31
    have c12 := L.tl.b0.c32
    have c20 := L.tl.tl.b0.c30
    have c21 := L.tl.tl.b0.c31
    have c22 := L.tl.tl.b0.c32
    (try go_wp2_with fail)
    refine (H1.out _ _ _ (isD_n (m := m) (e := e) (s := .slice A (zl m) c) (L.getN (v := .slice A (zl m) c) (x := (m).natAbs) (by simp))) (isD_n (m := n) (e := f) (s := .slice B (zl n) d) (L.getN (v := .slice B (zl n) d) (x := (n).natAbs) (by simp)))).mono ?_
    rintro e w1 ⟨rfl, be⟩
    clear c00 f00 c01 f01 c02 f02 c10 c11 c12 c20 c21 c22
    replace L := L.step be
    clear be
    have c00 := L.b0.c30
    have f00 := L.b0.fr 0
    have c01 := L.b0.c31
    have f01 := L.b0.fr 1
    have c02 := L.b0.c32
    have f02 := L.b0.fr 2
    have c10 := L.tl.b0.c30
    have c11 := L.tl.b0.c31
    have c12 := L.tl.b0.c32
    have c20 := L.tl.tl.b0.c30
    have c21 := L.tl.tl.b0.c31
    have c22 := L.tl.tl.b0.c32
    (try go_wp2_with fail)
    have LP := L.putD (by omega) (by first | (simp; done) | (simp; omega)) (ng m) A (zl m) c (e)
    have k0 := LP.b0.c30
    have k1 := LP.b0.c31
    have k2 := LP.b0.c32
    unfold put3 at k0 k1 k2
    exact bodyPost_ret (v := .agg #[.bool (ng m), .slice A (zl m) c, .int .i64 (e)]) (by simp [results, Try.results57, go_sem, k0, k1, k2]) rfl ⟨_, rfl, isD_n (LP.getN (by simp)), LP.below⟩
  · have b1 : decide (x1 ≤ 0) = false := decide_eq_false q
    rw [if_neg q] at hr
    subst hr
    clear q
    go_enter Try.func57, Try.ntmps57
    go_wp2_with fail
    have L := (((L0.varD (w.heap.size) (by simp) (ng m) A (zl m) c e).varD (w.heap.size + 1) (by simp) (ng n) B (zl n) d f).varD (w.heap.size + 2) (by simp) false none 0 0 0)
    have c00 := L.b0.c30
    have f00 := L.b0.fr 0
    have c01 := L.b0.c31
    have f01 := L.b0.fr 1
    have c02 := L.b0.c32
    have f02 := L.b0.fr 2
    have c10 := L.tl.b0.c30
    have c11 := L.tl.b0.c31
    have c12 := L.tl.b0.c32
    have c20 := L.tl.tl.b0.c30
    have c21 := L.tl.tl.b0.c31
    have c22 := L.tl.tl.b0.c32
    (try go_wp2_with fail)
    refine (H1.out _ _ _ (isD_n (m := m) (e := e) (s := .slice A (zl m) c) (L.getN (v := .slice A (zl m) c) (x := (m).natAbs) (by simp))) (isD_n (m := n) (e := f) (s := .slice B (zl n) d) (L.getN (v := .slice B (zl n) d) (x := (n).natAbs) (by simp)))).mono ?_
    rintro e w1 ⟨rfl, be⟩
    clear c00 f00 c01 f01 c02 f02 c10 c11 c12 c20 c21 c22
    replace L := L.step be
    clear be
    have c00 := L.b0.c30
    have f00 := L.b0.fr 0
    have c01 := L.b0.c31
    have f01 := L.b0.fr 1
    have c02 := L.b0.c32
    have f02 := L.b0.fr 2
    have c10 := L.tl.b0.c30
    have c11 := L.tl.b0.c31
    have c12 := L.tl.b0.c32
    have c20 := L.tl.tl.b0.c30
    have c21 := L.tl.tl.b0.c31
    have c22 := L.tl.tl.b0.c32
    (try go_wp2_with fail)
    have LP := L.putD (by omega) (by first | (simp; done) | (simp; omega)) (ng n) B (zl n) d (f)
    have k0 := LP.b0.c30
    have k1 := LP.b0.c31
    have k2 := LP.b0.c32
    unfold put3 at k0 k1 k2
    exact bodyPost_ret (v := .agg #[.bool (ng n), .slice B (zl n) d, .int .i64 (f)]) (by simp [results, Try.results57, go_sem, k0, k1, k2]) rfl ⟨_, rfl, isD_n (LP.getN (by simp)), LP.below⟩
set_option maxHeartbeats 4000000 in
theorem r10greatest_any (m e n f : Int) (vx vy : Value) (w : World) (hx : IsD w vx m e) (hy : IsD w vy n f) (lm : zl m ≤ 1000) (ln : zl n ≤ 1000) (he : -20000 ≤ e ∧ e ≤ 20000) (hf : -20000 ≤ f ∧ f ≤ 20000) :
    Calls Try.prog 56 #[vx, vy] w (RetD8 w (gstD m e n f).1 (gstD m e n f).2) := by
  obtain ⟨A, c, rfl, _, hn1⟩ := hx.form
  obtain ⟨B, d, rfl, _, hn2⟩ := hy.form
  have L0 := ((Lq.mk0 w).n hn2).n hn1
  obtain ⟨r, hr⟩ : ∃ r, gstD m e n f = r := ⟨_, rfl⟩
  rw [hr]
  unfold gstD dcm at hr
  have H10 := fun v u W h1 h2 => rcmp8_any m e n f v u W h1 h2 (by omega) (by omega) (by omega) (by omega)
  obtain ⟨x1, hx1⟩ : ∃ x, dcm m e n f = x := ⟨_, rfl⟩
  unfold dcm at hx1
  rw [hx1] at H10
  have H1 := Lib.hid H10
  clear H10
  rw [hx1] at hr
  clear hx hy hn1 hn2 hx1 lm ln he hf
  by_cases q : 0 ≤ x1
  · have b1 : decide (0 ≤ x1) = true := decide_eq_true q
    rw [if_pos q] at hr
    subst hr
    clear q
    go_enter Try.func56, Try.ntmps56
    go_wp2_with fail
    have L := (((L0.varD (w.heap.size) (by simp) (ng m) A (zl m) c e).varD (w.heap.size + 1) (by simp) (ng n) B (zl n) d f).varD (w.heap.size + 2) (by simp) false none 0 0 0)
    have c00 := L.b0.c30
    have f00 := L.b0.fr 0
    have c01 := L.b0.c31
    have f01 := L.b0.fr 1
    have c02 := L.b0.c32
    have f02 := L.b0.fr 2
    have c10 := L.tl.b0.c30
    have c11 := L.tl.b0.c31
    have c12 := L.tl.b0.c32
    have c20 := L.tl.tl.b0.c30
    have c21 := L.tl.tl.b0.c31
    have c22 := L.tl.tl.b0.c32
    (try go_wp2_with fail)
    refine (H1.out _ _ _ (isD_n (m := m) (e := e) (s := .slice A (zl m) c) (L.getN (v := .slice A (zl m) c) (x := (m).natAbs) (by simp))) (isD_n (m := n) (e := f) (s := .slice B (zl n) d) (L.getN (v := .slice B (zl n) d) (x := (n).natAbs) (by simp)))).mono ?_
    rintro e w1 ⟨rfl, be⟩
    clear c00 f00 c01 f01 c02 f02 c10 c11 c12 c20 c21 c22
    replace L := L.step be
    clear be
    have c00 := L.b0.c30
    have f00 := L.b0.fr 0
    have c01 := L.b0.c31
    have f01 := L.b0.fr 1
    have c02 := L.b0.c32
    have f02 := L.b0.fr 2
    have c10 := L.tl.b0.c30
    have c11 := L.tl.b0.c31
    have c12 := L.tl.b0.c32
    have c20 := L.tl.tl.b0.c30
    have c21 := L.tl.tl.b0.c31
    have c22 := L.tl.tl.b0.c32
    (try go_wp2_with fail)
    have LP := L.putD (by omega) (by first | (simp; done) | (simp; omega)) (ng m) A (zl m) c (e)
    have k0 := LP.b0.c30
    have k1 := LP.b0.c31
    have k2 := LP.b0.c32
    unfold put3 at k0 k1 k2
    exact bodyPost_ret (v := .agg #[.bool (ng m), .slice A (zl m) c, .int .i64 (e)]) (by simp [results, Try.results56, go_sem, k0, k1, k2]) rfl ⟨_, rfl, isD_n (LP.getN (by simp)), LP.below⟩
  · have b1 : decide (0 ≤ x1) = false := decide_eq_false q
    rw [if_neg q] at hr
    subst hr
    clear q
    go_enter Try.func56, Try.ntmps56
    go_wp2_with fail
    have L := (((L0.varD (w.heap.size) (by simp) (ng m) A (zl m) c e).varD (w.heap.size + 1) (by simp) (ng n) B (zl n) d f).varD (w.heap.size + 2) (by simp) false none 0 0 0)
    have c00 := L.b0.c30
    have f00 := L.b0.fr 0
    have c01 := L.b0.c31
    have f01 := L.b0.fr 1
    have c02 := L.b0.c32
    have f02 := L.b0.fr 2
    have c10 := L.tl.b0.c30
    have c11 := L.tl.b0.c31
    have c12 := L.tl.b0.c32
    have c20 := L.tl.tl.b0.c30
    have c21 := L.tl.tl.b0.c31
    have c22 := L.tl.tl.b0.c32
    (try go_wp2_with fail)
    refine (H1.out _ _ _ (isD_n (m := m) (e := e) (s := .slice A (zl m) c) (L.getN (v := .slice A (zl m) c) (x := (m).natAbs) (by simp))) (isD_n (m := n) (e := f) (s := .slice B (zl n) d) (L.getN (v := .slice B (zl n) d) (x := (n).natAbs) (by simp)))).mono ?_
    rintro e w1 ⟨rfl, be⟩
    clear c00 f00 c01 f01 c02 f02 c10 c11 c12 c20 c21 c22
    replace L := L.step be
    clear be
    have c00 := L.b0.c30
    have f00 := L.b0.fr 0
    have c01 := L.b0.c31
    have f01 := L.b0.fr 1
    have c02 := L.b0.c32
    have f02 := L.b0.fr 2
    have c10 := L.tl.b0.c30
    have c11 := L.tl.b0.c31
    have c12 := L.tl.b0.c32
    have c20 := L.tl.tl.b0.c30
    have c21 := L.tl.tl.b0.c31
    have c22 := L.tl.tl.b0.c32
    (try go_wp2_with fail)
    have LP := L.putD (by omega) (by first | (simp; done) | (simp; omega)) (ng n) B (zl n) d (f)
    have k0 := LP.b0.c30
    have k1 := LP.b0.c31
    have k2 := LP.b0.c32
    unfold put3 at k0 k1 k2
    exact bodyPost_ret (v := .agg #[.bool (ng n), .slice B (zl n) d, .int .i64 (f)]) (by simp [results, Try.results56, go_sem, k0, k1, k2]) rfl ⟨_, rfl, isD_n (LP.getN (by simp)), LP.below⟩

end Go.Proofs.Ytgcmdlannbobgaa
