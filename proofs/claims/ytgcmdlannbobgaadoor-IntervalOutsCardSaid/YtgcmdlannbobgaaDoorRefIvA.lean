/- The reference's Valid, Within, Cmp, Sign, Same, least, greatest. -/
import Derived.Test.YtgcmdlannbobgaaDoorIvMath
import Derived.Test.YtgcmdlannbobgaaDoorBaseE
import Derived.Deep.RegionHeld3
import Derived.Deep.DrawnRows
namespace Go.Proofs.YtgcmdlannbobgaaDoor
open Go.RowKit
set_option linter.unusedVariables false
set_option linter.unusedSimpArgs false
set_option maxRecDepth 100000
attribute [local go_sem ↓] Go.wp_at_zero Go.wp_at_succ

/-- How two intervals lie. -/
def icm (m e n f m2 e2 n2 f2 : Int) : Int := if dcm n f m2 e2 < 0 then -1 else if 0 < dcm m e n2 f2 then 1 else 0
/-- What Make returns. -/
def RetMk (w : World) (m e n f : Int) : Ending → World → Prop := if dcm m e n f ≤ 0 then RetIE w m e n f 0 else RetIE w 0 0 0 0 1
/-- What Sign returns. -/
def RetSg (w : World) (m n : Int) (en : Ending) (w' : World) : Prop := en = .returned (.tuple #[.int .i64 (if cmpI m 0 = cmpI n 0 then cmpI m 0 else 0), .bool (decide (cmpI m 0 = cmpI n 0))]) ∧ Below w.heap.size w w'

theorem dval_pair {w : World} {A : Option Addr} {p c : Nat} {b : Bool} {l : List Nat} {e : Int} (h : Sl w A p c l) (hv : dval b l e = true) : ∃ m, sg b (val l) = m ∧ b = ng m ∧ p = zl m ∧ IsN w (.slice A p c) m.natAbs ∧ Dv m e := by
  have hv0 := hv
  unfold dval sval at hv
  rw [Bool.and_eq_true, Bool.and_eq_true] at hv
  have ht := hv.1.1
  have hb := hv.1.2
  have hn := isN_trim8 h ht
  have hd : dig (val l) = l := by rw [dig_val h.small, ← trim_take, of_decide_eq_true ht, List.take_length]
  have hlen : l.length = len (val l) := by rw [← length_dig, hd]
  have hbn : b = ng (sg b (val l)) := by
    rw [sg_ng]
    cases b
    · rfl
    · rw [Bool.not_true, Bool.false_or, decide_eq_true_iff] at hb
      rw [Bool.true_and]
      refine (decide_eq_true (Nat.pos_of_ne_zero fun h0 => ?_)).symm
      rw [h0, len_zero] at hlen
      omega
  have ha : (sg b (val l)).natAbs = val l := sg_abs b (val l)
  refine ⟨_, rfl, hbn, ?_, by rw [ha]; exact hn, ?_⟩
  · unfold zl
    rw [ha, ← hlen]
    exact h.len.symm
  · have h1 := dval_any (sg b (val l)) e
    rw [← hbn, ha, hd, hv0] at h1
    unfold Dv
    by_cases h0 : sg b (val l) = 0
    · rw [if_pos h0] at h1
      exact Or.inl ⟨h0, of_decide_eq_true h1.symm⟩
    · rw [if_neg h0] at h1
      exact Or.inr ⟨h0, h1.symm⟩

set_option maxHeartbeats 4000000 in
theorem r10same_any (m e n f m2 e2 n2 f2 : Int) (vx vy : Value) (w : World) (hx : IsI w vx m e n f) (hy : IsI w vy m2 e2 n2 f2) (lm : zl m ≤ 1000) (ln : zl n ≤ 1000) (lm2 : zl m2 ≤ 1000) (ln2 : zl n2 ≤ 1000) (he : -20000 ≤ e ∧ e ≤ 20000) (hf : -20000 ≤ f ∧ f ≤ 20000) (he2 : -20000 ≤ e2 ∧ e2 ≤ 20000) (hf2 : -20000 ≤ f2 ∧ f2 ≤ 20000) :
    Calls Tryd.prog 18 #[vx, vy] w (RetB w ((decide (e = e2) && decide (m = m2)) && (decide (f = f2) && decide (n = n2)))) := by
  obtain ⟨A, c, B, d, rfl, hn1, hn2⟩ := hx.form
  obtain ⟨A2, k2, B2, d2, rfl, hn3, hn4⟩ := hy.form
  have L0 := ((((Lq.mk0 w).n hn4).n hn3).n hn2).n hn1
  have H1 := Lib.hid (fun v u W h1 h2 => same8_any m e m2 e2 v u W h1 h2)
  have H2 := Lib.hid (fun v u W h1 h2 => same8_any n f n2 f2 v u W h1 h2)
  generalize (decide (e = e2) && decide (m = m2)) = r1 at *
  generalize (decide (f = f2) && decide (n = n2)) = r2 at *
  clear hx hy hn1 hn2 hn3 hn4 lm ln lm2 ln2 he hf he2 hf2
  cases r1
  · rw [Bool.false_and]
    go_enter Tryd.func18, Tryd.ntmps18
    go_wp2_with fail
    have L := ((L0.varI (w.heap.size) (by simp) (ng m) A (zl m) c e (ng n) B (zl n) d f).varI (w.heap.size + 1) (by simp) (ng m2) A2 (zl m2) k2 e2 (ng n2) B2 (zl n2) d2 f2)
    have c00 := L.b0.c60
    have c01 := L.b0.c61
    have c02 := L.b0.c62
    have c03 := L.b0.c63
    have c04 := L.b0.c64
    have c05 := L.b0.c65
    have c10 := L.tl.b0.c60
    have c11 := L.tl.b0.c61
    have c12 := L.tl.b0.c62
    have c13 := L.tl.b0.c63
    have c14 := L.tl.b0.c64
    have c15 := L.tl.b0.c65
    (try go_wp2_with fail)
    refine (H1.out _ _ _ (isD_n (m := m) (e := e) (s := .slice A (zl m) c) (L.getN (v := .slice A (zl m) c) (x := (m).natAbs) (by simp))) (isD_n (m := m2) (e := e2) (s := .slice A2 (zl m2) k2) (L.getN (v := .slice A2 (zl m2) k2) (x := (m2).natAbs) (by simp)))).mono ?_
    rintro e w1 ⟨rfl, be⟩
    clear c00 c01 c02 c03 c04 c05 c10 c11 c12 c13 c14 c15
    replace L := L.step be
    clear be
    have c00 := L.b0.c60
    have c01 := L.b0.c61
    have c02 := L.b0.c62
    have c03 := L.b0.c63
    have c04 := L.b0.c64
    have c05 := L.b0.c65
    have c10 := L.tl.b0.c60
    have c11 := L.tl.b0.c61
    have c12 := L.tl.b0.c62
    have c13 := L.tl.b0.c63
    have c14 := L.tl.b0.c64
    have c15 := L.tl.b0.c65
    (try go_wp2_with fail)
    go_ret
    exact ⟨rfl, L.below⟩
  · rw [Bool.true_and]
    go_enter Tryd.func18, Tryd.ntmps18
    go_wp2_with fail
    have L := ((L0.varI (w.heap.size) (by simp) (ng m) A (zl m) c e (ng n) B (zl n) d f).varI (w.heap.size + 1) (by simp) (ng m2) A2 (zl m2) k2 e2 (ng n2) B2 (zl n2) d2 f2)
    have c00 := L.b0.c60
    have c01 := L.b0.c61
    have c02 := L.b0.c62
    have c03 := L.b0.c63
    have c04 := L.b0.c64
    have c05 := L.b0.c65
    have c10 := L.tl.b0.c60
    have c11 := L.tl.b0.c61
    have c12 := L.tl.b0.c62
    have c13 := L.tl.b0.c63
    have c14 := L.tl.b0.c64
    have c15 := L.tl.b0.c65
    (try go_wp2_with fail)
    refine (H1.out _ _ _ (isD_n (m := m) (e := e) (s := .slice A (zl m) c) (L.getN (v := .slice A (zl m) c) (x := (m).natAbs) (by simp))) (isD_n (m := m2) (e := e2) (s := .slice A2 (zl m2) k2) (L.getN (v := .slice A2 (zl m2) k2) (x := (m2).natAbs) (by simp)))).mono ?_
    rintro e w1 ⟨rfl, be⟩
    clear c00 c01 c02 c03 c04 c05 c10 c11 c12 c13 c14 c15
    replace L := L.step be
    clear be
    have c00 := L.b0.c60
    have c01 := L.b0.c61
    have c02 := L.b0.c62
    have c03 := L.b0.c63
    have c04 := L.b0.c64
    have c05 := L.b0.c65
    have c10 := L.tl.b0.c60
    have c11 := L.tl.b0.c61
    have c12 := L.tl.b0.c62
    have c13 := L.tl.b0.c63
    have c14 := L.tl.b0.c64
    have c15 := L.tl.b0.c65
    (try go_wp2_with fail)
    refine (H2.out _ _ _ (isD_n (m := n) (e := f) (s := .slice B (zl n) d) (L.getN (v := .slice B (zl n) d) (x := (n).natAbs) (by simp))) (isD_n (m := n2) (e := f2) (s := .slice B2 (zl n2) d2) (L.getN (v := .slice B2 (zl n2) d2) (x := (n2).natAbs) (by simp)))).mono ?_
    rintro e w2 ⟨rfl, be⟩
    clear c00 c01 c02 c03 c04 c05 c10 c11 c12 c13 c14 c15
    replace L := L.step be
    clear be
    (try go_wp2_with fail)
    go_ret
    exact ⟨rfl, L.below⟩
end Go.Proofs.YtgcmdlannbobgaaDoor
