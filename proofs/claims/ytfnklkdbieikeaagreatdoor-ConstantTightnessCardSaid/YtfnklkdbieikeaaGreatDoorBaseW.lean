/- Base texts, joined: RefIvA, RefIvB, RefIvC, MillIv, IvMath2. -/
import Derived.Test.YtfnklkdbieikeaaGreatDoorBaseV
import Derived.Test.YtfnklkdbieikeaaGreatDoorBaseE
import Derived.Deep.RegionHeld3
import Derived.Deep.DrawnRows
import Derived.Test.YtfnklkdbieikeaaGreatDoorBaseF
import Derived.Deep.Cut
import Derived.Deep.CutRange
/- The reference's Valid, Within, Cmp, Sign, Same, least, greatest. -/
namespace Go.Proofs.YtfnklkdbieikeaaGreatDoor
open Go.RowKit
set_option linter.unusedVariables false
set_option linter.unusedSimpArgs false
set_option maxRecDepth 100000
attribute [local go_sem ↓] Go.wp_at_zero Go.wp_at_succ

/-- How two intervals lie. -/
def icm (m e n f m2 e2 n2 f2 : Int) : Int := if dcm n f m2 e2 < 0 then -1 else if 0 < dcm m e n2 f2 then 1 else 0
/-- What Make returns. -/
def RetMk (w : World) (m e n f : Int) : Ending → World → Prop := if dcm m e n f ≤ 0 then RetIE w m e n f 0 else RetIE w 0 0 0 0 1
/-- What Sign returns. -/
def RetSg (w : World) (m n : Int) (en : Ending) (w' : World) : Prop := en = .returned (.tuple #[.int .i64 (if cmpI m 0 = cmpI n 0 then cmpI m 0 else 0), .bool (decide (cmpI m 0 = cmpI n 0))]) ∧ Below w.heap.size w w'

theorem dval_pair {w : World} {A : Option Addr} {p c : Nat} {b : Bool} {l : List Nat} {e : Int} (h : Sl w A p c l) (hv : dval b l e = true) : ∃ m, sg b (val l) = m ∧ b = ng m ∧ p = zl m ∧ IsN w (.slice A p c) m.natAbs ∧ Dv m e := by
  have hv0 := hv
  unfold dval sval at hv
  rw [Bool.and_eq_true, Bool.and_eq_true] at hv
  have ht := hv.1.1
  have hb := hv.1.2
  have hn := isN_trim8 h ht
  have hd : dig (val l) = l := by rw [dig_val h.small, ← trim_take, of_decide_eq_true ht, List.take_length]
  have hlen : l.length = len (val l) := by rw [← length_dig, hd]
  have hbn : b = ng (sg b (val l)) := by
    rw [sg_ng]
    cases b
    · rfl
    · rw [Bool.not_true, Bool.false_or, decide_eq_true_iff] at hb
      rw [Bool.true_and]
      refine (decide_eq_true (Nat.pos_of_ne_zero fun h0 => ?_)).symm
      rw [h0, len_zero] at hlen
      omega
  have ha : (sg b (val l)).natAbs = val l := sg_abs b (val l)
  refine ⟨_, rfl, hbn, ?_, by rw [ha]; exact hn, ?_⟩
  · unfold zl
    rw [ha, ← hlen]
    exact h.len.symm
  · have h1 := dval_any (sg b (val l)) e
    rw [← hbn, ha, hd, hv0] at h1
    unfold Dv
    by_cases h0 : sg b (val l) = 0
    · rw [if_pos h0] at h1
      exact Or.inl ⟨h0, of_decide_eq_true h1.symm⟩
    · rw [if_neg h0] at h1
      exact Or.inr ⟨h0, h1.symm⟩

set_option maxHeartbeats 4000000 in
theorem r10valid_any (m e n f : Int) (vx : Value) (w : World) (hx : IsI w vx m e n f) (lm : zl m ≤ 1000) (ln : zl n ≤ 1000) (he : -70000 ≤ e ∧ e ≤ 70000) (hf : -70000 ≤ f ∧ f ≤ 70000) (hv : Dv m e) (hv2 : Dv n f) :
    Calls Tryz.prog 32 #[vx] w (RetB w (decide (dcm m e n f ≤ 0))) := by
  obtain ⟨A, c, B, d, rfl, hn1, hn2⟩ := hx.form
  have L0 := ((Lq.mk0 w).n hn2).n hn1
  have hok : ∀ m e : Int, Dv m e → (if m = 0 then decide (e = 0) else fits8 m e) = true := fun m e h => by
    rcases h with ⟨h1, h2⟩ | ⟨h1, h2⟩
    · rw [if_pos h1, h2]; rfl
    · rw [if_neg h1, h2]
  have v1 := fun v W h => rvalid8_d m e v W h (by omega)
  have v2 := fun v W h => rvalid8_d n f v W h (by omega)
  rw [hok m e hv] at v1
  rw [hok n f hv2] at v2
  have V1 := Lib.hid v1
  have V2 := Lib.hid v2
  have H10 := fun v u W h1 h2 => rcmp8_any m e n f v u W h1 h2 (by omega) (by omega) (by omega) (by omega)
  obtain ⟨x1, hx1⟩ : ∃ x, dcm m e n f = x := ⟨_, rfl⟩
  unfold dcm at hx1
  rw [hx1] at H10
  have H1 := Lib.hid H10
  clear H10
  show Calls _ _ _ _ (RetB w (decide (cmpI (m * 2 ^ (e - min e f).toNat) (n * 2 ^ (f - min e f).toNat) ≤ 0)))
  rw [hx1]
  clear v1 v2 hok hx hn1 hn2 hx1 lm ln he hf hv hv2
  go_enter Tryz.func32, Tryz.ntmps32
  go_wp2_with fail
  have L := (L0.varI (w.heap.size) (by simp) (ng m) A (zl m) c e (ng n) B (zl n) d f)
  have c00 := L.b0.c60
  have c01 := L.b0.c61
  have c02 := L.b0.c62
  have c03 := L.b0.c63
  have c04 := L.b0.c64
  have c05 := L.b0.c65
  (try go_wp2_with fail)
  refine (V1.out _ _ (isD_n (m := m) (e := e) (s := .slice A (zl m) c) (L.getN (v := .slice A (zl m) c) (x := (m).natAbs) (by simp)))).mono ?_
  rintro e w1 ⟨rfl, be⟩
  clear c00 c01 c02 c03 c04 c05
  replace L := L.step be
  clear be
  have c00 := L.b0.c60
  have c01 := L.b0.c61
  have c02 := L.b0.c62
  have c03 := L.b0.c63
  have c04 := L.b0.c64
  have c05 := L.b0.c65
  (try go_wp2_with fail)
  refine (V2.out _ _ (isD_n (m := n) (e := f) (s := .slice B (zl n) d) (L.getN (v := .slice B (zl n) d) (x := (n).natAbs) (by simp)))).mono ?_
  rintro e w2 ⟨rfl, be⟩
  clear c00 c01 c02 c03 c04 c05
  replace L := L.step be
  clear be
  have c00 := L.b0.c60
  have c01 := L.b0.c61
  have c02 := L.b0.c62
  have c03 := L.b0.c63
  have c04 := L.b0.c64
  have c05 := L.b0.c65
  (try go_wp2_with fail)
  refine (H1.out _ _ _ (isD_n (m := m) (e := e) (s := .slice A (zl m) c) (L.getN (v := .slice A (zl m) c) (x := (m).natAbs) (by simp))) (isD_n (m := n) (e := f) (s := .slice B (zl n) d) (L.getN (v := .slice B (zl n) d) (x := (n).natAbs) (by simp)))).mono ?_
  rintro e w3 ⟨rfl, be⟩
  clear c00 c01 c02 c03 c04 c05
  replace L := L.step be
  clear be
  have c00 := L.b0.c60
  have c01 := L.b0.c61
  have c02 := L.b0.c62
  have c03 := L.b0.c63
  have c04 := L.b0.c64
  have c05 := L.b0.c65
  (try go_wp2_with fail)
  go_ret
  exact ⟨rfl, L.below⟩
set_option maxHeartbeats 4000000 in
theorem r10raw_any (b b' : Bool) (l l' : List Nat) (A A' : Option Addr) (p c p' c' : Nat) (e e' : Int) (w : World) (h : Sl w A p c l) (h' : Sl w A' p' c' l') (hp : p ≤ 20) (hp' : p' ≤ 20) :
    Calls Tryz.prog 32 #[.agg #[.bool b, .slice A p c, .int .i64 e, .bool b', .slice A' p' c', .int .i64 e']] w (RetB w (dval b l e && (dval b' l' e' && decide (dcm (sg b (val l)) e (sg b' (val l')) e' ≤ 0)))) := by
  have V1 := Lib.hid (fun W (hW : Below w.heap.size w W) => rvalid8_any b l A p c e W (h.mono hW) (by omega))
  have V2 := Lib.hid (fun W (hW : Below w.heap.size w W) => rvalid8_any b' l' A' p' c' e' W (h'.mono hW) (by omega))
  cases d1 : dval b l e
  · rw [Bool.false_and]
    rw [d1] at V1
    clear d1 h h' hp hp'
    go_enter Tryz.func32, Tryz.ntmps32
    go_wp2_with fail
    have L := ((Lq.mk0 w).varI (w.heap.size) (by simp) b A p c e b' A' p' c' e')
    have c00 := L.b0.c60
    have c01 := L.b0.c61
    have c02 := L.b0.c62
    have c03 := L.b0.c63
    have c04 := L.b0.c64
    have c05 := L.b0.c65
    (try go_wp2_with fail)
    refine (V1.out _ L.below).mono ?_
    rintro e w1 ⟨rfl, be⟩
    clear c00 c01 c02 c03 c04 c05
    replace L := L.step be
    clear be
    have c00 := L.b0.c60
    have c01 := L.b0.c61
    have c02 := L.b0.c62
    have c03 := L.b0.c63
    have c04 := L.b0.c64
    have c05 := L.b0.c65
    (try go_wp2_with fail)
    go_ret
    exact ⟨rfl, L.below⟩
  · rw [Bool.true_and]
    cases d2 : dval b' l' e'
    · rw [Bool.false_and]
      rw [d1] at V1
      rw [d2] at V2
      clear d1 d2 h h' hp hp'
      go_enter Tryz.func32, Tryz.ntmps32
      go_wp2_with fail
      have L := ((Lq.mk0 w).varI (w.heap.size) (by simp) b A p c e b' A' p' c' e')
      have c00 := L.b0.c60
      have c01 := L.b0.c61
      have c02 := L.b0.c62
      have c03 := L.b0.c63
      have c04 := L.b0.c64
      have c05 := L.b0.c65
      (try go_wp2_with fail)
      refine (V1.out _ L.below).mono ?_
      rintro e w1 ⟨rfl, be⟩
      clear c00 c01 c02 c03 c04 c05
      replace L := L.step be
      clear be
      have c00 := L.b0.c60
      have c01 := L.b0.c61
      have c02 := L.b0.c62
      have c03 := L.b0.c63
      have c04 := L.b0.c64
      have c05 := L.b0.c65
      (try go_wp2_with fail)
      refine (V2.out _ L.below).mono ?_
      rintro e w2 ⟨rfl, be⟩
      clear c00 c01 c02 c03 c04 c05
      replace L := L.step be
      clear be
      have c00 := L.b0.c60
      have c01 := L.b0.c61
      have c02 := L.b0.c62
      have c03 := L.b0.c63
      have c04 := L.b0.c64
      have c05 := L.b0.c65
      (try go_wp2_with fail)
      go_ret
      exact ⟨rfl, L.below⟩
    · rw [Bool.true_and]
      obtain ⟨m, r1, r2, r3, r4, r5⟩ := dval_pair h d1
      obtain ⟨n, r6, r7, r8, r9, r10⟩ := dval_pair h' d2
      rw [r1, r6]
      have x1 := dv_bound r5
      have x2 := dv_bound r10
      clear V1 V2 d1 d2 h h' r1 r6
      subst r2 r7 r3 r8
      exact r10valid_any m e n e' _ w (isI_n r4 r9) (by omega) (by omega) (by omega) (by omega) r5 r10
set_option maxHeartbeats 4000000 in
theorem r10within_any (m e n f m2 e2 n2 f2 : Int) (vx vy : Value) (w : World) (hx : IsI w vx m e n f) (hy : IsI w vy m2 e2 n2 f2) (lm : zl m ≤ 1000) (ln : zl n ≤ 1000) (lm2 : zl m2 ≤ 1000) (ln2 : zl n2 ≤ 1000) (he : -20000 ≤ e ∧ e ≤ 20000) (hf : -20000 ≤ f ∧ f ≤ 20000) (he2 : -20000 ≤ e2 ∧ e2 ≤ 20000) (hf2 : -20000 ≤ f2 ∧ f2 ≤ 20000) :
    Calls Tryz.prog 24 #[vx, vy] w (RetB w (inB m e n f m2 e2 n2 f2)) := by
  obtain ⟨A, c, B, d, rfl, hn1, hn2⟩ := hx.form
  obtain ⟨A2, k2, B2, d2, rfl, hn3, hn4⟩ := hy.form
  have L0 := ((((Lq.mk0 w).n hn4).n hn3).n hn2).n hn1
  obtain ⟨r, hr⟩ : ∃ r, inB m e n f m2 e2 n2 f2 = r := ⟨_, rfl⟩
  rw [hr]
  unfold inB dcm at hr
  have H10 := fun v u W h1 h2 => rcmp8_any m2 e2 m e v u W h1 h2 (by omega) (by omega) (by omega) (by omega)
  obtain ⟨x1, hx1⟩ : ∃ x, dcm m2 e2 m e = x := ⟨_, rfl⟩
  unfold dcm at hx1
  rw [hx1] at H10
  have H1 := Lib.hid H10
  clear H10
  have H20 := fun v u W h1 h2 => rcmp8_any n f n2 f2 v u W h1 h2 (by omega) (by omega) (by omega) (by omega)
  obtain ⟨x2, hx2⟩ : ∃ x, dcm n f n2 f2 = x := ⟨_, rfl⟩
  unfold dcm at hx2
  rw [hx2] at H20
  have H2 := Lib.hid H20
  clear H20
  rw [hx1, hx2] at hr
  clear hx hy hn1 hn2 hn3 hn4 hx1 hx2 lm ln lm2 ln2 he hf he2 hf2
  by_cases q : x1 ≤ 0
  · have b1 : decide (x1 ≤ 0) = true := decide_eq_true q
    rw [b1, Bool.true_and] at hr
    clear q
    go_enter Tryz.func24, Tryz.ntmps24
    go_wp2_with fail
    have L := ((L0.varI (w.heap.size) (by simp) (ng m) A (zl m) c e (ng n) B (zl n) d f).varI (w.heap.size + 1) (by simp) (ng m2) A2 (zl m2) k2 e2 (ng n2) B2 (zl n2) d2 f2)
    have c00 := L.b0.c60
    have c01 := L.b0.c61
    have c02 := L.b0.c62
    have c03 := L.b0.c63
    have c04 := L.b0.c64
    have c05 := L.b0.c65
    have c10 := L.tl.b0.c60
    have c11 := L.tl.b0.c61
    have c12 := L.tl.b0.c62
    have c13 := L.tl.b0.c63
    have c14 := L.tl.b0.c64
    have c15 := L.tl.b0.c65
    (try go_wp2_with fail)
    refine (H1.out _ _ _ (isD_n (m := m2) (e := e2) (s := .slice A2 (zl m2) k2) (L.getN (v := .slice A2 (zl m2) k2) (x := (m2).natAbs) (by simp))) (isD_n (m := m) (e := e) (s := .slice A (zl m) c) (L.getN (v := .slice A (zl m) c) (x := (m).natAbs) (by simp)))).mono ?_
    rintro e w1 ⟨rfl, be⟩
    clear c00 c01 c02 c03 c04 c05 c10 c11 c12 c13 c14 c15
    replace L := L.step be
    clear be
    have c00 := L.b0.c60
    have c01 := L.b0.c61
    have c02 := L.b0.c62
    have c03 := L.b0.c63
    have c04 := L.b0.c64
    have c05 := L.b0.c65
    have c10 := L.tl.b0.c60
    have c11 := L.tl.b0.c61
    have c12 := L.tl.b0.c62
    have c13 := L.tl.b0.c63
    have c14 := L.tl.b0.c64
    have c15 := L.tl.b0.c65
    (try go_wp2_with fail)
    refine (H2.out _ _ _ (isD_n (m := n) (e := f) (s := .slice B (zl n) d) (L.getN (v := .slice B (zl n) d) (x := (n).natAbs) (by simp))) (isD_n (m := n2) (e := f2) (s := .slice B2 (zl n2) d2) (L.getN (v := .slice B2 (zl n2) d2) (x := (n2).natAbs) (by simp)))).mono ?_
    rintro e w2 ⟨rfl, be⟩
    clear c00 c01 c02 c03 c04 c05 c10 c11 c12 c13 c14 c15
    replace L := L.step be
    clear be
    (try go_wp2_with fail)
    rw [← hr]
    go_ret
    exact ⟨rfl, L.below⟩
  · have b1 : decide (x1 ≤ 0) = false := decide_eq_false q
    rw [b1, Bool.false_and] at hr
    subst hr
    clear q
    go_enter Tryz.func24, Tryz.ntmps24
    go_wp2_with fail
    have L := ((L0.varI (w.heap.size) (by simp) (ng m) A (zl m) c e (ng n) B (zl n) d f).varI (w.heap.size + 1) (by simp) (ng m2) A2 (zl m2) k2 e2 (ng n2) B2 (zl n2) d2 f2)
    have c00 := L.b0.c60
    have c01 := L.b0.c61
    have c02 := L.b0.c62
    have c03 := L.b0.c63
    have c04 := L.b0.c64
    have c05 := L.b0.c65
    have c10 := L.tl.b0.c60
    have c11 := L.tl.b0.c61
    have c12 := L.tl.b0.c62
    have c13 := L.tl.b0.c63
    have c14 := L.tl.b0.c64
    have c15 := L.tl.b0.c65
    (try go_wp2_with fail)
    refine (H1.out _ _ _ (isD_n (m := m2) (e := e2) (s := .slice A2 (zl m2) k2) (L.getN (v := .slice A2 (zl m2) k2) (x := (m2).natAbs) (by simp))) (isD_n (m := m) (e := e) (s := .slice A (zl m) c) (L.getN (v := .slice A (zl m) c) (x := (m).natAbs) (by simp)))).mono ?_
    rintro e w1 ⟨rfl, be⟩
    clear c00 c01 c02 c03 c04 c05 c10 c11 c12 c13 c14 c15
    replace L := L.step be
    clear be
    have c00 := L.b0.c60
    have c01 := L.b0.c61
    have c02 := L.b0.c62
    have c03 := L.b0.c63
    have c04 := L.b0.c64
    have c05 := L.b0.c65
    have c10 := L.tl.b0.c60
    have c11 := L.tl.b0.c61
    have c12 := L.tl.b0.c62
    have c13 := L.tl.b0.c63
    have c14 := L.tl.b0.c64
    have c15 := L.tl.b0.c65
    (try go_wp2_with fail)
    go_ret
    exact ⟨rfl, L.below⟩
set_option maxHeartbeats 4000000 in
theorem r10cmp_any (m e n f m2 e2 n2 f2 : Int) (vx vy : Value) (w : World) (hx : IsI w vx m e n f) (hy : IsI w vy m2 e2 n2 f2) (lm : zl m ≤ 1000) (ln : zl n ≤ 1000) (lm2 : zl m2 ≤ 1000) (ln2 : zl n2 ≤ 1000) (he : -20000 ≤ e ∧ e ≤ 20000) (hf : -20000 ≤ f ∧ f ≤ 20000) (he2 : -20000 ≤ e2 ∧ e2 ≤ 20000) (hf2 : -20000 ≤ f2 ∧ f2 ≤ 20000) :
    Calls Tryz.prog 14 #[vx, vy] w (RetI w (icm m e n f m2 e2 n2 f2)) := by
  obtain ⟨A, c, B, d, rfl, hn1, hn2⟩ := hx.form
  obtain ⟨A2, k2, B2, d2, rfl, hn3, hn4⟩ := hy.form
  have L0 := ((((Lq.mk0 w).n hn4).n hn3).n hn2).n hn1
  obtain ⟨r, hr⟩ : ∃ r, icm m e n f m2 e2 n2 f2 = r := ⟨_, rfl⟩
  rw [hr]
  unfold icm dcm at hr
  have H10 := fun v u W h1 h2 => rcmp8_any n f m2 e2 v u W h1 h2 (by omega) (by omega) (by omega) (by omega)
  obtain ⟨x1, hx1⟩ : ∃ x, dcm n f m2 e2 = x := ⟨_, rfl⟩
  unfold dcm at hx1
  rw [hx1] at H10
  have H1 := Lib.hid H10
  clear H10
  have H20 := fun v u W h1 h2 => rcmp8_any m e n2 f2 v u W h1 h2 (by omega) (by omega) (by omega) (by omega)
  obtain ⟨x2, hx2⟩ : ∃ x, dcm m e n2 f2 = x := ⟨_, rfl⟩
  unfold dcm at hx2
  rw [hx2] at H20
  have H2 := Lib.hid H20
  clear H20
  rw [hx1, hx2] at hr
  clear hx hy hn1 hn2 hn3 hn4 hx1 hx2 lm ln lm2 ln2 he hf he2 hf2
  by_cases q : x1 < 0
  · have b1 : decide (x1 < 0) = true := decide_eq_true q
    rw [if_pos q] at hr
    subst hr
    clear q
    go_enter Tryz.func14, Tryz.ntmps14
    go_wp2_with fail
    have L := ((L0.varI (w.heap.size) (by simp) (ng m) A (zl m) c e (ng n) B (zl n) d f).varI (w.heap.size + 1) (by simp) (ng m2) A2 (zl m2) k2 e2 (ng n2) B2 (zl n2) d2 f2)
    have c00 := L.b0.c60
    have c01 := L.b0.c61
    have c02 := L.b0.c62
    have c03 := L.b0.c63
    have c04 := L.b0.c64
    have c05 := L.b0.c65
    have c10 := L.tl.b0.c60
    have c11 := L.tl.b0.c61
    have c12 := L.tl.b0.c62
    have c13 := L.tl.b0.c63
    have c14 := L.tl.b0.c64
    have c15 := L.tl.b0.c65
    (try go_wp2_with fail)
    refine (H1.out _ _ _ (isD_n (m := n) (e := f) (s := .slice B (zl n) d) (L.getN (v := .slice B (zl n) d) (x := (n).natAbs) (by simp))) (isD_n (m := m2) (e := e2) (s := .slice A2 (zl m2) k2) (L.getN (v := .slice A2 (zl m2) k2) (x := (m2).natAbs) (by simp)))).mono ?_
    rintro e w1 ⟨rfl, be⟩
    clear c00 c01 c02 c03 c04 c05 c10 c11 c12 c13 c14 c15
    replace L := L.step be
    clear be
    have c00 := L.b0.c60
    have c01 := L.b0.c61
    have c02 := L.b0.c62
    have c03 := L.b0.c63
    have c04 := L.b0.c64
    have c05 := L.b0.c65
    have c10 := L.tl.b0.c60
    have c11 := L.tl.b0.c61
    have c12 := L.tl.b0.c62
    have c13 := L.tl.b0.c63
    have c14 := L.tl.b0.c64
    have c15 := L.tl.b0.c65
    (try go_wp2_with fail)
    go_ret
    exact ⟨rfl, L.below⟩
  · have b1 : decide (x1 < 0) = false := decide_eq_false q
    rw [if_neg q] at hr
    clear q
    by_cases q : 0 < x2
    · have b2 : decide (0 < x2) = true := decide_eq_true q
      rw [if_pos q] at hr
      subst hr
      clear q
      go_enter Tryz.func14, Tryz.ntmps14
      go_wp2_with fail
      have L := ((L0.varI (w.heap.size) (by simp) (ng m) A (zl m) c e (ng n) B (zl n) d f).varI (w.heap.size + 1) (by simp) (ng m2) A2 (zl m2) k2 e2 (ng n2) B2 (zl n2) d2 f2)
      have c00 := L.b0.c60
      have c01 := L.b0.c61
      have c02 := L.b0.c62
      have c03 := L.b0.c63
      have c04 := L.b0.c64
      have c05 := L.b0.c65
      have c10 := L.tl.b0.c60
      have c11 := L.tl.b0.c61
      have c12 := L.tl.b0.c62
      have c13 := L.tl.b0.c63
      have c14 := L.tl.b0.c64
      have c15 := L.tl.b0.c65
      (try go_wp2_with fail)
      refine (H1.out _ _ _ (isD_n (m := n) (e := f) (s := .slice B (zl n) d) (L.getN (v := .slice B (zl n) d) (x := (n).natAbs) (by simp))) (isD_n (m := m2) (e := e2) (s := .slice A2 (zl m2) k2) (L.getN (v := .slice A2 (zl m2) k2) (x := (m2).natAbs) (by simp)))).mono ?_
      rintro e w1 ⟨rfl, be⟩
      clear c00 c01 c02 c03 c04 c05 c10 c11 c12 c13 c14 c15
      replace L := L.step be
      clear be
      have c00 := L.b0.c60
      have c01 := L.b0.c61
      have c02 := L.b0.c62
      have c03 := L.b0.c63
      have c04 := L.b0.c64
      have c05 := L.b0.c65
      have c10 := L.tl.b0.c60
      have c11 := L.tl.b0.c61
      have c12 := L.tl.b0.c62
      have c13 := L.tl.b0.c63
      have c14 := L.tl.b0.c64
      have c15 := L.tl.b0.c65
      (try go_wp2_with fail)
      refine (H2.out _ _ _ (isD_n (m := m) (e := e) (s := .slice A (zl m) c) (L.getN (v := .slice A (zl m) c) (x := (m).natAbs) (by simp))) (isD_n (m := n2) (e := f2) (s := .slice B2 (zl n2) d2) (L.getN (v := .slice B2 (zl n2) d2) (x := (n2).natAbs) (by simp)))).mono ?_
      rintro e w2 ⟨rfl, be⟩
      clear c00 c01 c02 c03 c04 c05 c10 c11 c12 c13 c14 c15
      replace L := L.step be
      clear be
      (try go_wp2_with fail)
      go_ret
      exact ⟨rfl, L.below⟩
    · have b2 : decide (0 < x2) = false := decide_eq_false q
      rw [if_neg q] at hr
      subst hr
      clear q
      go_enter Tryz.func14, Tryz.ntmps14
      go_wp2_with fail
      have L := ((L0.varI (w.heap.size) (by simp) (ng m) A (zl m) c e (ng n) B (zl n) d f).varI (w.heap.size + 1) (by simp) (ng m2) A2 (zl m2) k2 e2 (ng n2) B2 (zl n2) d2 f2)
      have c00 := L.b0.c60
      have c01 := L.b0.c61
      have c02 := L.b0.c62
      have c03 := L.b0.c63
      have c04 := L.b0.c64
      have c05 := L.b0.c65
      have c10 := L.tl.b0.c60
      have c11 := L.tl.b0.c61
      have c12 := L.tl.b0.c62
      have c13 := L.tl.b0.c63
      have c14 := L.tl.b0.c64
      have c15 := L.tl.b0.c65
      (try go_wp2_with fail)
      refine (H1.out _ _ _ (isD_n (m := n) (e := f) (s := .slice B (zl n) d) (L.getN (v := .slice B (zl n) d) (x := (n).natAbs) (by simp))) (isD_n (m := m2) (e := e2) (s := .slice A2 (zl m2) k2) (L.getN (v := .slice A2 (zl m2) k2) (x := (m2).natAbs) (by simp)))).mono ?_
      rintro e w1 ⟨rfl, be⟩
      clear c00 c01 c02 c03 c04 c05 c10 c11 c12 c13 c14 c15
      replace L := L.step be
      clear be
      have c00 := L.b0.c60
      have c01 := L.b0.c61
      have c02 := L.b0.c62
      have c03 := L.b0.c63
      have c04 := L.b0.c64
      have c05 := L.b0.c65
      have c10 := L.tl.b0.c60
      have c11 := L.tl.b0.c61
      have c12 := L.tl.b0.c62
      have c13 := L.tl.b0.c63
      have c14 := L.tl.b0.c64
      have c15 := L.tl.b0.c65
      (try go_wp2_with fail)
      refine (H2.out _ _ _ (isD_n (m := m) (e := e) (s := .slice A (zl m) c) (L.getN (v := .slice A (zl m) c) (x := (m).natAbs) (by simp))) (isD_n (m := n2) (e := f2) (s := .slice B2 (zl n2) d2) (L.getN (v := .slice B2 (zl n2) d2) (x := (n2).natAbs) (by simp)))).mono ?_
      rintro e w2 ⟨rfl, be⟩
      clear c00 c01 c02 c03 c04 c05 c10 c11 c12 c13 c14 c15
      replace L := L.step be
      clear be
      (try go_wp2_with fail)
      go_ret
      exact ⟨rfl, L.below⟩
set_option maxHeartbeats 4000000 in
theorem r10same_any (m e n f m2 e2 n2 f2 : Int) (vx vy : Value) (w : World) (hx : IsI w vx m e n f) (hy : IsI w vy m2 e2 n2 f2) (lm : zl m ≤ 1000) (ln : zl n ≤ 1000) (lm2 : zl m2 ≤ 1000) (ln2 : zl n2 ≤ 1000) (he : -20000 ≤ e ∧ e ≤ 20000) (hf : -20000 ≤ f ∧ f ≤ 20000) (he2 : -20000 ≤ e2 ∧ e2 ≤ 20000) (hf2 : -20000 ≤ f2 ∧ f2 ≤ 20000) :
    Calls Tryz.prog 15 #[vx, vy] w (RetB w ((decide (e = e2) && decide (m = m2)) && (decide (f = f2) && decide (n = n2)))) := by
  obtain ⟨A, c, B, d, rfl, hn1, hn2⟩ := hx.form
  obtain ⟨A2, k2, B2, d2, rfl, hn3, hn4⟩ := hy.form
  have L0 := ((((Lq.mk0 w).n hn4).n hn3).n hn2).n hn1
  have H1 := Lib.hid (fun v u W h1 h2 => same8_any m e m2 e2 v u W h1 h2)
  have H2 := Lib.hid (fun v u W h1 h2 => same8_any n f n2 f2 v u W h1 h2)
  generalize (decide (e = e2) && decide (m = m2)) = r1 at *
  generalize (decide (f = f2) && decide (n = n2)) = r2 at *
  clear hx hy hn1 hn2 hn3 hn4 lm ln lm2 ln2 he hf he2 hf2
  cases r1
  · rw [Bool.false_and]
    go_enter Tryz.func15, Tryz.ntmps15
    go_wp2_with fail
    have L := ((L0.varI (w.heap.size) (by simp) (ng m) A (zl m) c e (ng n) B (zl n) d f).varI (w.heap.size + 1) (by simp) (ng m2) A2 (zl m2) k2 e2 (ng n2) B2 (zl n2) d2 f2)
    have c00 := L.b0.c60
    have c01 := L.b0.c61
    have c02 := L.b0.c62
    have c03 := L.b0.c63
    have c04 := L.b0.c64
    have c05 := L.b0.c65
    have c10 := L.tl.b0.c60
    have c11 := L.tl.b0.c61
    have c12 := L.tl.b0.c62
    have c13 := L.tl.b0.c63
    have c14 := L.tl.b0.c64
    have c15 := L.tl.b0.c65
    (try go_wp2_with fail)
    refine (H1.out _ _ _ (isD_n (m := m) (e := e) (s := .slice A (zl m) c) (L.getN (v := .slice A (zl m) c) (x := (m).natAbs) (by simp))) (isD_n (m := m2) (e := e2) (s := .slice A2 (zl m2) k2) (L.getN (v := .slice A2 (zl m2) k2) (x := (m2).natAbs) (by simp)))).mono ?_
    rintro e w1 ⟨rfl, be⟩
    clear c00 c01 c02 c03 c04 c05 c10 c11 c12 c13 c14 c15
    replace L := L.step be
    clear be
    have c00 := L.b0.c60
    have c01 := L.b0.c61
    have c02 := L.b0.c62
    have c03 := L.b0.c63
    have c04 := L.b0.c64
    have c05 := L.b0.c65
    have c10 := L.tl.b0.c60
    have c11 := L.tl.b0.c61
    have c12 := L.tl.b0.c62
    have c13 := L.tl.b0.c63
    have c14 := L.tl.b0.c64
    have c15 := L.tl.b0.c65
    (try go_wp2_with fail)
    go_ret
    exact ⟨rfl, L.below⟩
  · rw [Bool.true_and]
    go_enter Tryz.func15, Tryz.ntmps15
    go_wp2_with fail
    have L := ((L0.varI (w.heap.size) (by simp) (ng m) A (zl m) c e (ng n) B (zl n) d f).varI (w.heap.size + 1) (by simp) (ng m2) A2 (zl m2) k2 e2 (ng n2) B2 (zl n2) d2 f2)
    have c00 := L.b0.c60
    have c01 := L.b0.c61
    have c02 := L.b0.c62
    have c03 := L.b0.c63
    have c04 := L.b0.c64
    have c05 := L.b0.c65
    have c10 := L.tl.b0.c60
    have c11 := L.tl.b0.c61
    have c12 := L.tl.b0.c62
    have c13 := L.tl.b0.c63
    have c14 := L.tl.b0.c64
    have c15 := L.tl.b0.c65
    (try go_wp2_with fail)
    refine (H1.out _ _ _ (isD_n (m := m) (e := e) (s := .slice A (zl m) c) (L.getN (v := .slice A (zl m) c) (x := (m).natAbs) (by simp))) (isD_n (m := m2) (e := e2) (s := .slice A2 (zl m2) k2) (L.getN (v := .slice A2 (zl m2) k2) (x := (m2).natAbs) (by simp)))).mono ?_
    rintro e w1 ⟨rfl, be⟩
    clear c00 c01 c02 c03 c04 c05 c10 c11 c12 c13 c14 c15
    replace L := L.step be
    clear be
    have c00 := L.b0.c60
    have c01 := L.b0.c61
    have c02 := L.b0.c62
    have c03 := L.b0.c63
    have c04 := L.b0.c64
    have c05 := L.b0.c65
    have c10 := L.tl.b0.c60
    have c11 := L.tl.b0.c61
    have c12 := L.tl.b0.c62
    have c13 := L.tl.b0.c63
    have c14 := L.tl.b0.c64
    have c15 := L.tl.b0.c65
    (try go_wp2_with fail)
    refine (H2.out _ _ _ (isD_n (m := n) (e := f) (s := .slice B (zl n) d) (L.getN (v := .slice B (zl n) d) (x := (n).natAbs) (by simp))) (isD_n (m := n2) (e := f2) (s := .slice B2 (zl n2) d2) (L.getN (v := .slice B2 (zl n2) d2) (x := (n2).natAbs) (by simp)))).mono ?_
    rintro e w2 ⟨rfl, be⟩
    clear c00 c01 c02 c03 c04 c05 c10 c11 c12 c13 c14 c15
    replace L := L.step be
    clear be
    (try go_wp2_with fail)
    go_ret
    exact ⟨rfl, L.below⟩
end Go.Proofs.YtfnklkdbieikeaaGreatDoor


/- The reference's Has, Hull, Meet. -/
namespace Go.Proofs.YtfnklkdbieikeaaGreatDoor
open Go.RowKit
set_option linter.unusedVariables false
set_option linter.unusedSimpArgs false
set_option maxRecDepth 100000
attribute [local go_sem ↓] Go.wp_at_zero Go.wp_at_succ

/-- What Meet returns. -/
def mtB (m e n f m2 e2 n2 f2 : Int) : Bool := decide (dcm (gstD m e m2 e2).1 (gstD m e m2 e2).2 (lstD n f n2 f2).1 (lstD n f n2 f2).2 ≤ 0)
def RetMt (w : World) (m e n f m2 e2 n2 f2 : Int) : Ending → World → Prop := if mtB m e n f m2 e2 n2 f2 then RetIV w (gstD m e m2 e2).1 (gstD m e m2 e2).2 (lstD n f n2 f2).1 (lstD n f n2 f2).2 true else RetIV w 0 0 0 0 false
end Go.Proofs.YtfnklkdbieikeaaGreatDoor


/- The reference's Shift, Width, Mid. -/
namespace Go.Proofs.YtfnklkdbieikeaaGreatDoor
open Go.RowKit
set_option linter.unusedVariables false
set_option linter.unusedSimpArgs false
set_option maxRecDepth 100000
attribute [local go_sem ↓] Go.wp_at_zero Go.wp_at_succ

set_option maxHeartbeats 4000000 in
theorem r10width_any (m e n f : Int) (vx : Value) (w : World) (hx : IsI w vx m e n f) (lm : zl m ≤ 1000) (ln : zl n ≤ 1000) (he : -20000 ≤ e ∧ e ≤ 20000) (hf : -20000 ≤ f ∧ f ≤ 20000) :
    Calls Tryz.prog 34 #[vx] w (RetDE w (mkM (addS n f (-m) e) (min f e)) (mkE (addS n f (-m) e) (min f e)) (mkR (addS n f (-m) e) (min f e))) := by
  obtain ⟨A, c, B, d, rfl, hn1, hn2⟩ := hx.form
  have L0 := ((Lq.mk0 w).n hn2).n hn1
  have HM := Lib.hid (fun v u W h1 h2 => rsub8_any n f m e v u W h1 h2 (by omega) (by omega) (by omega) (by omega))
  generalize mkM (addS n f (-m) e) (min f e) = M at *
  generalize mkE (addS n f (-m) e) (min f e) = E at *
  generalize mkR (addS n f (-m) e) (min f e) = R at *
  clear hx hn1 hn2 lm ln he hf
  go_enter Tryz.func34, Tryz.ntmps34
  go_wp2_with fail
  have L := ((L0.varI (w.heap.size) (by simp) (ng m) A (zl m) c e (ng n) B (zl n) d f).varD (w.heap.size + 1) (by simp) false none 0 0 0)
  have c00 := L.b0.c30
  have f00 := L.b0.fr 0
  have c01 := L.b0.c31
  have f01 := L.b0.fr 1
  have c02 := L.b0.c32
  have f02 := L.b0.fr 2
  have c10 := L.tl.b0.c60
  have c11 := L.tl.b0.c61
  have c12 := L.tl.b0.c62
  have c13 := L.tl.b0.c63
  have c14 := L.tl.b0.c64
  have c15 := L.tl.b0.c65
  (try go_wp2_with fail)
  refine (HM.out _ _ _ (isD_n (m := n) (e := f) (s := .slice B (zl n) d) (L.getN (v := .slice B (zl n) d) (x := (n).natAbs) (by simp))) (isD_n (m := m) (e := e) (s := .slice A (zl m) c) (L.getN (v := .slice A (zl m) c) (x := (m).natAbs) (by simp)))).mono ?_
  rintro e w1 ⟨v8, rfl, id, be⟩
  clear c00 f00 c01 f01 c02 f02 c10 c11 c12 c13 c14 c15
  obtain ⟨A9, c9, rfl, _, in9⟩ := id.form
  replace L := (L.step be).n in9
  clear be in9 id
  have c00 := L.b0.c30
  have f00 := L.b0.fr 0
  have c01 := L.b0.c31
  have f01 := L.b0.fr 1
  have c02 := L.b0.c32
  have f02 := L.b0.fr 2
  have c10 := L.tl.b0.c60
  have c11 := L.tl.b0.c61
  have c12 := L.tl.b0.c62
  have c13 := L.tl.b0.c63
  have c14 := L.tl.b0.c64
  have c15 := L.tl.b0.c65
  (try go_wp2_with fail)
  have LP := L.putD (by omega) (by first | (simp; done) | (simp; omega)) (ng M) A9 (zl M) c9 (E)
  have k0 := LP.b0.c30
  have k1 := LP.b0.c31
  have k2 := LP.b0.c32
  unfold put3 at k0 k1 k2
  exact bodyPost_ret (v := .tuple #[.agg #[.bool (ng M), .slice A9 (zl M) c9, .int .i64 (E)], .int .i64 R]) (by simp [results, Tryz.results34, go_sem, k0, k1, k2]) rfl ⟨_, rfl, isD_n LP.hn, LP.below⟩
end Go.Proofs.YtfnklkdbieikeaaGreatDoor


/- The mill's intervals; the laws' two, and their interval between two integers. -/
namespace Go.Proofs.YtfnklkdbieikeaaGreatDoor
open Go.RowKit
set_option linter.unusedVariables false
set_option linter.unusedSimpArgs false
set_option maxRecDepth 100000
attribute [local go_sem ↓] Go.wp_at_zero Go.wp_at_succ

/-- A valid interval that is short enough, or what the mill left, and whether it is. -/
def RetMillI (w : World) (k K : Nat) (en : Ending) (w' : World) : Prop := ∃ v ok m e n f, en = .returned (.tuple #[v, .bool ok]) ∧ IsI w' v m e n f ∧ (zl m ≤ k + 1 ∧ zl n ≤ k + 1) ∧ (-(K : Int) ≤ e ∧ e ≤ (K : Int) + 32 * ((k : Int) + 1)) ∧ (-(K : Int) ≤ f ∧ f ≤ (K : Int) + 32 * ((k : Int) + 1)) ∧ (ok = true → Dv m e ∧ Dv n f) ∧ dcm m e n f ≤ 0 ∧ Below w.heap.size w w'

set_option maxHeartbeats 8000000 in
theorem millI_any (b b' : Bool) (l l' : List Nat) (k K : Nat) (A A' : Option Addr) (p c p' c' : Nat) (e e' : Int) (w : World) (h : Sl w A p c l) (h' : Sl w A' p' c' l') (hk : k ≤ 1000) (hK : K ≤ 1000) (h1 : -9223372036854775808 ≤ e) (h2 : e ≤ 9223372036854775807) (h3 : -9223372036854775808 ≤ e') (h4 : e' ≤ 9223372036854775807) :
    Calls Tryz.prog 17 #[.agg #[.bool b, .slice A p c, .int .i64 e, .bool b', .slice A' p' c', .int .i64 e'], .int .i64 (k : Int), .int .i64 (K : Int)] w (RetMillI w k K) := by
  have H1 := Lib.hid (fun W (hW : Below w.heap.size w W) => millD_any b l k K A p c e W (h.mono hW) (by omega) (by omega) h1 h2)
  have H2 := Lib.hid (fun W (hW : Below w.heap.size w W) => millD_any b' l' k K A' p' c' e' W (h'.mono hW) (by omega) (by omega) h3 h4)
  clear h h' h1 h2 h3 h4
  go_enter Tryz.func17, Tryz.ntmps17
  go_wp2_with fail
  have L := (((Lq.mk0 w).varI (w.heap.size) (by simp) b A p c e b' A' p' c' e').varI (w.heap.size + 1) (by simp) false none 0 0 0 false none 0 0 0)
  have c00 := L.b0.c60
  have c01 := L.b0.c61
  have c02 := L.b0.c62
  have c03 := L.b0.c63
  have c04 := L.b0.c64
  have c05 := L.b0.c65
  have c10 := L.tl.b0.c60
  have c11 := L.tl.b0.c61
  have c12 := L.tl.b0.c62
  have c13 := L.tl.b0.c63
  have c14 := L.tl.b0.c64
  have c15 := L.tl.b0.c65
  (try go_wp2_with fail)
  refine (H1.out _ L.below).mono ?_
  rintro e w1 ⟨v1, ok1, m, me, rfl, id, lm, lm2, lm3, dm, be⟩
  clear c00 c01 c02 c03 c04 c05 c10 c11 c12 c13 c14 c15
  obtain ⟨A1, c1, rfl, _, in9⟩ := id.form
  replace L := (L.step be).n in9
  clear be id in9
  have hlg := L.b0.lt
  replace L := L.varD w1.heap.size rfl (ng m) A1 (zl m) c1 me
  have c00 := L.b0.c30
  have c01 := L.b0.c31
  have c02 := L.b0.c32
  have c20 := L.tl.tl.b0.c60
  have c21 := L.tl.tl.b0.c61
  have c22 := L.tl.tl.b0.c62
  have c23 := L.tl.tl.b0.c63
  have c24 := L.tl.tl.b0.c64
  have c25 := L.tl.tl.b0.c65
  go_wp2_with fail
  obtain ⟨g, hg⟩ : ∃ g, w1.heap.size = g := ⟨_, rfl⟩
  rw [hg] at L hlg c00 c01 c02 ⊢
  clear hg
  clear c00 c01 c02 c20 c21 c22 c23 c24 c25
  refine (H2.out _ L.below).mono ?_
  rintro e w2 ⟨v2, ok2, n, ne, rfl, id, ln, ln2, ln3, dn, be⟩
  obtain ⟨A2, c2, rfl, _, in9⟩ := id.form
  replace L := (L.step be).n in9
  clear be id in9
  have hlk9 := L.b0.lt
  replace L := L.varD w2.heap.size rfl (ng n) A2 (zl n) c2 ne
  obtain ⟨x, hx⟩ : ∃ x, dcm m me n ne = x := ⟨_, rfl⟩
  have hc := fun v u W h1 h2 => rcmp8_any m me n ne v u W h1 h2 (by omega) (by omega) (by omega) (by omega)
  have hx2 := hx
  unfold dcm at hx2
  rw [hx2] at hc
  have HC := Lib.hid hc
  clear hc hx2
  have c00 := L.b0.c30
  have c01 := L.b0.c31
  have c02 := L.b0.c32
  have c10 := L.tl.b0.c30
  have c11 := L.tl.b0.c31
  have c12 := L.tl.b0.c32
  go_wp2_with fail
  obtain ⟨g2, hg⟩ : ∃ g, w2.heap.size = g := ⟨_, rfl⟩
  rw [hg] at L hlk9 c00 c01 c02 ⊢
  clear hg
  refine (HC.out _ _ _ (isD_n (s := .slice A1 (zl m) c1) (L.getN (by simp))) (isD_n (s := .slice A2 (zl n) c2) (L.getN (by simp)))).mono ?_
  rintro e w3 ⟨rfl, be⟩
  clear c00 c01 c02 c10 c11 c12
  replace L := L.step be
  clear be
  have n1 : g2 ≠ g := by omega
  have n2 : w.heap.size + 1 ≠ g := by omega
  have n3 : w.heap.size + 1 ≠ g2 := by omega
  have n4 : w.heap.size ≠ g := by omega
  have n5 : w.heap.size ≠ g2 := by omega
  by_cases q : 0 < x
  · have b1 : decide (0 < x) = true := decide_eq_true q
    have c00 := L.b0.c30
    have f00 := L.b0.fr 0
    have c01 := L.b0.c31
    have f01 := L.b0.fr 1
    have c02 := L.b0.c32
    have f02 := L.b0.fr 2
    have c10 := L.tl.b0.c30
    have f10 := L.tl.b0.fr 0
    have c11 := L.tl.b0.c31
    have f11 := L.tl.b0.fr 1
    have c12 := L.tl.b0.c32
    have f12 := L.tl.b0.fr 2
    have p1 := (L.swap.putD (by omega) (by simp [n1, n2, n3, n4, n5]) (ng n) A2 (zl n) c2 ne)
    have p2 := (p1.swap.putD (by omega) (by simp [n1, n2, n3, n4, n5, Ne.symm n1]) (ng m) A1 (zl m) c1 me)
    have x10 := p1.b0.c30
    have x11 := p1.b0.c31
    have x12 := p1.b0.c32
    have x20 := p1.tl.b0.c30
    have x21 := p1.tl.b0.c31
    have x22 := p1.tl.b0.c32
    have y20 := p1.tl.b0.fr 0
    have y21 := p1.tl.b0.fr 1
    have y22 := p1.tl.b0.fr 2
    have x30 := p2.b0.c30
    have x31 := p2.b0.c31
    have x32 := p2.b0.c32
    have x40 := p2.tl.b0.c30
    have x41 := p2.tl.b0.c31
    have x42 := p2.tl.b0.c32
    replace L := p2.pull2
    have z0 := L.b0.fr 0
    have z1 := L.b0.fr 1
    have z2 := L.b0.fr 2
    have z3 := L.b0.fr 3
    have z4 := L.b0.fr 4
    have z5 := L.b0.fr 5
    clear p1 p2
    unfold put3 at *
    have hxs : dcm n ne m me ≤ 0 := by rw [dcm_swap m me n ne, hx]; omega
    cases ok1
    · skip
      have c00 := L.b0.c60
      have f00 := L.b0.fr 0
      have c01 := L.b0.c61
      have f01 := L.b0.fr 1
      have c02 := L.b0.c62
      have f02 := L.b0.fr 2
      have c03 := L.b0.c63
      have f03 := L.b0.fr 3
      have c04 := L.b0.c64
      have f04 := L.b0.fr 4
      have c05 := L.b0.c65
      have f05 := L.b0.fr 5
      have c10 := L.tl.b0.c30
      have c11 := L.tl.b0.c31
      have c12 := L.tl.b0.c32
      have c20 := L.tl.tl.b0.c30
      have c21 := L.tl.tl.b0.c31
      have c22 := L.tl.tl.b0.c32
      go_wp2_with fail
      have LP := L.putI (by omega) (by simp [n1, n2, n3, n4, n5, Ne.symm n2, Ne.symm n3]) (ng n) A2 (zl n) c2 ne (ng m) A1 (zl m) c1 me
      have k0 := LP.b0.c60
      have k1 := LP.b0.c61
      have k2 := LP.b0.c62
      have k3 := LP.b0.c63
      have k4 := LP.b0.c64
      have k5 := LP.b0.c65
      unfold put6 at k0 k1 k2 k3 k4 k5
      exact bodyPost_ret (v := .tuple #[.agg #[.bool (ng n), .slice A2 (zl n) c2, .int .i64 ne, .bool (ng m), .slice A1 (zl m) c1, .int .i64 me], .bool false]) (by simp [results, Tryz.results17, go_sem, k0, k1, k2, k3, k4, k5]) rfl ⟨_, _, _, _, _, _, rfl, isI_n (LP.getN (by simp)) (LP.getN (by simp)), ⟨ln, lm⟩, ⟨by omega, by omega⟩, ⟨by omega, by omega⟩, fun h => (by cases h), hxs, LP.below⟩
    · skip
      have c00 := L.b0.c60
      have f00 := L.b0.fr 0
      have c01 := L.b0.c61
      have f01 := L.b0.fr 1
      have c02 := L.b0.c62
      have f02 := L.b0.fr 2
      have c03 := L.b0.c63
      have f03 := L.b0.fr 3
      have c04 := L.b0.c64
      have f04 := L.b0.fr 4
      have c05 := L.b0.c65
      have f05 := L.b0.fr 5
      have c10 := L.tl.b0.c30
      have c11 := L.tl.b0.c31
      have c12 := L.tl.b0.c32
      have c20 := L.tl.tl.b0.c30
      have c21 := L.tl.tl.b0.c31
      have c22 := L.tl.tl.b0.c32
      go_wp2_with fail
      have LP := L.putI (by omega) (by simp [n1, n2, n3, n4, n5, Ne.symm n2, Ne.symm n3]) (ng n) A2 (zl n) c2 ne (ng m) A1 (zl m) c1 me
      have k0 := LP.b0.c60
      have k1 := LP.b0.c61
      have k2 := LP.b0.c62
      have k3 := LP.b0.c63
      have k4 := LP.b0.c64
      have k5 := LP.b0.c65
      unfold put6 at k0 k1 k2 k3 k4 k5
      exact bodyPost_ret (v := .tuple #[.agg #[.bool (ng n), .slice A2 (zl n) c2, .int .i64 ne, .bool (ng m), .slice A1 (zl m) c1, .int .i64 me], .bool ok2]) (by simp [results, Tryz.results17, go_sem, k0, k1, k2, k3, k4, k5]) rfl ⟨_, _, _, _, _, _, rfl, isI_n (LP.getN (by simp)) (LP.getN (by simp)), ⟨ln, lm⟩, ⟨by omega, by omega⟩, ⟨by omega, by omega⟩, fun h => ⟨dn h, dm (by first | trivial | rfl)⟩, hxs, LP.below⟩
  · have b1 : decide (0 < x) = false := decide_eq_false q
    replace L := L.pull2
    cases ok1
    · skip
      have c00 := L.b0.c60
      have f00 := L.b0.fr 0
      have c01 := L.b0.c61
      have f01 := L.b0.fr 1
      have c02 := L.b0.c62
      have f02 := L.b0.fr 2
      have c03 := L.b0.c63
      have f03 := L.b0.fr 3
      have c04 := L.b0.c64
      have f04 := L.b0.fr 4
      have c05 := L.b0.c65
      have f05 := L.b0.fr 5
      have c10 := L.tl.b0.c30
      have c11 := L.tl.b0.c31
      have c12 := L.tl.b0.c32
      have c20 := L.tl.tl.b0.c30
      have c21 := L.tl.tl.b0.c31
      have c22 := L.tl.tl.b0.c32
      go_wp2_with fail
      have LP := L.putI (by omega) (by simp [n1, n2, n3, n4, n5, Ne.symm n2, Ne.symm n3]) (ng m) A1 (zl m) c1 me (ng n) A2 (zl n) c2 ne
      have k0 := LP.b0.c60
      have k1 := LP.b0.c61
      have k2 := LP.b0.c62
      have k3 := LP.b0.c63
      have k4 := LP.b0.c64
      have k5 := LP.b0.c65
      unfold put6 at k0 k1 k2 k3 k4 k5
      exact bodyPost_ret (v := .tuple #[.agg #[.bool (ng m), .slice A1 (zl m) c1, .int .i64 me, .bool (ng n), .slice A2 (zl n) c2, .int .i64 ne], .bool false]) (by simp [results, Tryz.results17, go_sem, k0, k1, k2, k3, k4, k5]) rfl ⟨_, _, _, _, _, _, rfl, isI_n (LP.getN (by simp)) (LP.getN (by simp)), ⟨lm, ln⟩, ⟨by omega, by omega⟩, ⟨by omega, by omega⟩, fun h => (by cases h), (by rw [hx]; omega), LP.below⟩
    · skip
      have c00 := L.b0.c60
      have f00 := L.b0.fr 0
      have c01 := L.b0.c61
      have f01 := L.b0.fr 1
      have c02 := L.b0.c62
      have f02 := L.b0.fr 2
      have c03 := L.b0.c63
      have f03 := L.b0.fr 3
      have c04 := L.b0.c64
      have f04 := L.b0.fr 4
      have c05 := L.b0.c65
      have f05 := L.b0.fr 5
      have c10 := L.tl.b0.c30
      have c11 := L.tl.b0.c31
      have c12 := L.tl.b0.c32
      have c20 := L.tl.tl.b0.c30
      have c21 := L.tl.tl.b0.c31
      have c22 := L.tl.tl.b0.c32
      go_wp2_with fail
      have LP := L.putI (by omega) (by simp [n1, n2, n3, n4, n5, Ne.symm n2, Ne.symm n3]) (ng m) A1 (zl m) c1 me (ng n) A2 (zl n) c2 ne
      have k0 := LP.b0.c60
      have k1 := LP.b0.c61
      have k2 := LP.b0.c62
      have k3 := LP.b0.c63
      have k4 := LP.b0.c64
      have k5 := LP.b0.c65
      unfold put6 at k0 k1 k2 k3 k4 k5
      exact bodyPost_ret (v := .tuple #[.agg #[.bool (ng m), .slice A1 (zl m) c1, .int .i64 me, .bool (ng n), .slice A2 (zl n) c2, .int .i64 ne], .bool ok2]) (by simp [results, Tryz.results17, go_sem, k0, k1, k2, k3, k4, k5]) rfl ⟨_, _, _, _, _, _, rfl, isI_n (LP.getN (by simp)) (LP.getN (by simp)), ⟨lm, ln⟩, ⟨by omega, by omega⟩, ⟨by omega, by omega⟩, fun h => ⟨dm (by first | trivial | rfl), dn h⟩, (by rw [hx]; omega), LP.below⟩
end Go.Proofs.YtfnklkdbieikeaaGreatDoor


/- What the walks of layer 10's laws lean on. -/
namespace Go.Proofs.YtfnklkdbieikeaaGreatDoor
open Go.RowKit
set_option linter.unusedVariables false
set_option linter.unusedSimpArgs false
set_option maxRecDepth 100000
attribute [local go_sem ↓] Go.wp_at_zero Go.wp_at_succ

theorem dcm_zero (n f : Int) : dcm n f 0 0 = cmpI n 0 := by
  unfold dcm
  have h := cmpI_scale n 0 (pow2_pos (f - min f 0).toNat)
  rw [Int.zero_mul] at h ⊢
  exact h
theorem sign_le {m e n f : Int} (h : dcm m e n f ≤ 0) : (cmpI m 0 = 1 → cmpI n 0 = 1) ∧ (cmpI n 0 = -1 → cmpI m 0 = -1) := by
  have h0 := (dcm_le m e n f).1 h
  have r1 := cmpI_range m 0
  have r2 := cmpI_range n 0
  constructor
  · intro h1
    have a1 : dq 0 0 < dq m e := (dcm_lt 0 0 m e).1 (by rw [dcm_swap m e 0 0, dcm_zero]; omega)
    have a2 := (dcm_lt 0 0 n f).2 (rle_lt a1 h0)
    rw [dcm_swap n f 0 0, dcm_zero] at a2
    omega
  · intro h1
    have a1 : dq n f < dq 0 0 := (dcm_lt n f 0 0).1 (by rw [dcm_zero]; omega)
    have a2 := (dcm_lt m e 0 0).2 (rlt_le h0 a1)
    rw [dcm_zero] at a2
    omega
theorem icm_swap {m e n f m2 e2 n2 f2 : Int} (h1 : dcm m e n f ≤ 0) (h2 : dcm m2 e2 n2 f2 ≤ 0) : icm m2 e2 n2 f2 m e n f = -icm m e n f m2 e2 n2 f2 := by
  unfold icm
  rw [dcm_swap m e n2 f2, dcm_swap n f m2 e2]
  have h : ¬ (dcm n f m2 e2 < 0 ∧ 0 < dcm m e n2 f2) := by
    rintro ⟨a1, a2⟩
    have b1 := (dcm_lt n f m2 e2).1 a1
    have b2 : dq n2 f2 < dq m e := (dcm_lt n2 f2 m e).1 (by rw [dcm_swap m e n2 f2]; omega)
    have c1 := (dcm_le _ _ _ _).1 h1
    have c2 := (dcm_le _ _ _ _).1 h2
    exact Rat.not_le.2 (rlt_le (Rat.le_trans c1 (Rat.le_of_lt (rle_lt b1 c2))) b2) Rat.le_refl
  generalize dcm n f m2 e2 = a at *
  generalize dcm m e n2 f2 = b at *
  (repeat' split) <;> omega
theorem icm_range (m e n f m2 e2 n2 f2 : Int) : -1 ≤ icm m e n f m2 e2 n2 f2 ∧ icm m e n f m2 e2 n2 f2 ≤ 1 := by
  unfold icm
  (repeat' split) <;> omega
/-- An interval meets zero just where it has no sign, or the sign zero. -/
theorem icm_zero {m e n f : Int} (h : dcm m e n f ≤ 0) : (icm m e n f 0 0 0 0 == 0) = (!(decide (cmpI m 0 = cmpI n 0)) || ((if cmpI m 0 = cmpI n 0 then cmpI m 0 else 0) == 0)) := by
  unfold icm
  rw [dcm_zero, dcm_zero]
  have h1 := sign_le h
  have r1 := cmpI_range m 0
  have r2 := cmpI_range n 0
  generalize cmpI m 0 = a at *
  generalize cmpI n 0 = b at *
  rw [Bool.eq_iff_iff]
  by_cases q : a = b
  · subst q
    simp only [decide_true, Bool.not_true, Bool.false_or, if_true, beq_iff_eq]
    (repeat' split) <;> omega
  · simp only [decide_eq_false q, Bool.not_false, Bool.true_or, iff_true, beq_iff_eq]
    (repeat' split) <;> omega
theorem mt_icm {m e n f m2 e2 n2 f2 : Int} (h1 : dcm m e n f ≤ 0) (h2 : dcm m2 e2 n2 f2 ≤ 0) : mtB m e n f m2 e2 n2 f2 = (icm m e n f m2 e2 n2 f2 == 0) := by
  have c1 := (dcm_le _ _ _ _).1 h1
  have c2 := (dcm_le _ _ _ _).1 h2
  have g := gstD_le m e m2 e2
  have l := lstD_le n f n2 f2
  have go := gstD_or m e m2 e2
  have lo := lstD_or n f n2 f2
  have key : mtB m e n f m2 e2 n2 f2 = true ↔ (dq m2 e2 ≤ dq n f ∧ dq m e ≤ dq n2 f2) := by
    unfold mtB
    rw [decide_eq_true_iff, dcm_le]
    constructor
    · intro h
      exact ⟨Rat.le_trans g.2 (Rat.le_trans h l.1), Rat.le_trans g.1 (Rat.le_trans h l.2)⟩
    · rintro ⟨a1, a2⟩
      rcases go with e1 | e1 <;> rcases lo with e2 | e2 <;> rw [e1, e2] <;> assumption
  rw [Bool.eq_iff_iff, key, beq_iff_eq]
  rw [← dcm_le, ← dcm_le, dcm_swap n f m2 e2]
  unfold icm
  generalize dcm n f m2 e2 = a at *
  generalize dcm m e n2 f2 = b at *
  (repeat' split) <;> omega
theorem meet_has (m e n f m2 e2 n2 f2 a : Int) (d : Nat) (hd : 0 < d) : (hasB m e n f a d && hasB m2 e2 n2 f2 a d) = (mtB m e n f m2 e2 n2 f2 && hasB (gstD m e m2 e2).1 (gstD m e m2 e2).2 (lstD n f n2 f2).1 (lstD n f n2 f2).2 a d) := by
  have g := gstD_le m e m2 e2
  have l := lstD_le n f n2 f2
  have go := gstD_or m e m2 e2
  have lo := lstD_or n f n2 f2
  unfold mtB
  rw [Bool.eq_iff_iff, Bool.and_eq_true, Bool.and_eq_true, hasB_iff _ _ _ _ _ _ hd, hasB_iff _ _ _ _ _ _ hd, hasB_iff _ _ _ _ _ _ hd, decide_eq_true_iff, dcm_le]
  constructor
  · rintro ⟨⟨a1, a2⟩, a3, a4⟩
    have b1 : dq (gstD m e m2 e2).1 (gstD m e m2 e2).2 ≤ Rat.divInt a (d : Int) := by rcases go with e1 | e1 <;> rw [e1] <;> assumption
    have b2 : Rat.divInt a (d : Int) ≤ dq (lstD n f n2 f2).1 (lstD n f n2 f2).2 := by rcases lo with e1 | e1 <;> rw [e1] <;> assumption
    exact ⟨Rat.le_trans b1 b2, b1, b2⟩
  · rintro ⟨_, b1, b2⟩
    exact ⟨⟨Rat.le_trans g.1 b1, Rat.le_trans b2 l.1⟩, Rat.le_trans g.2 b1, Rat.le_trans b2 l.2⟩
theorem hull_in (m e n f m2 e2 n2 f2 : Int) : inB m e n f (lstD m e m2 e2).1 (lstD m e m2 e2).2 (gstD n f n2 f2).1 (gstD n f n2 f2).2 = true ∧ inB m2 e2 n2 f2 (lstD m e m2 e2).1 (lstD m e m2 e2).2 (gstD n f n2 f2).1 (gstD n f n2 f2).2 = true := by
  have g := gstD_le n f n2 f2
  have l := lstD_le m e m2 e2
  rw [inB_iff, inB_iff]
  exact ⟨⟨l.1, g.1⟩, l.2, g.2⟩


end Go.Proofs.YtfnklkdbieikeaaGreatDoor

