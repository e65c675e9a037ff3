/- Base texts, joined: RefIvA, RefIvB, RefIvC, MillIv, MillTwoA, IvMath2. -/
import Derived.Test.YtoobcngbnjeddaaGreatDoorBaseV
import Derived.Test.YtoobcngbnjeddaaGreatDoorBaseE
import Derived.Deep.RegionHeld3
import Derived.Deep.DrawnRows
import Derived.Test.YtoobcngbnjeddaaGreatDoorBaseF
import Derived.Deep.Cut
import Derived.Deep.CutRange
/- The reference's Valid, Within, Cmp, Sign, Same, least, greatest. -/
namespace Go.Proofs.YtoobcngbnjeddaaGreatDoor
open Go.RowKit
set_option linter.unusedVariables false
set_option linter.unusedSimpArgs false
set_option maxRecDepth 100000
attribute [local go_sem ↓] Go.wp_at_zero Go.wp_at_succ

/-- What Sign returns. -/
def RetSg (w : World) (m n : Int) (en : Ending) (w' : World) : Prop := en = .returned (.tuple #[.int .i64 (if cmpI m 0 = cmpI n 0 then cmpI m 0 else 0), .bool (decide (cmpI m 0 = cmpI n 0))]) ∧ Below w.heap.size w w'

theorem dval_pair {w : World} {A : Option Addr} {p c : Nat} {b : Bool} {l : List Nat} {e : Int} (h : Sl w A p c l) (hv : dval b l e = true) : ∃ m, sg b (val l) = m ∧ b = ng m ∧ p = zl m ∧ IsN w (.slice A p c) m.natAbs ∧ Dv m e := by
  have hv0 := hv
  unfold dval sval at hv
  rw [Bool.and_eq_true, Bool.and_eq_true] at hv
  have ht := hv.1.1
  have hb := hv.1.2
  have hn := isN_trim8 h ht
  have hd : dig (val l) = l := by rw [dig_val h.small, ← trim_take, of_decide_eq_true ht, List.take_length]
  have hlen : l.length = len (val l) := by rw [← length_dig, hd]
  have hbn : b = ng (sg b (val l)) := by
    rw [sg_ng]
    cases b
    · rfl
    · rw [Bool.not_true, Bool.false_or, decide_eq_true_iff] at hb
      rw [Bool.true_and]
      refine (decide_eq_true (Nat.pos_of_ne_zero fun h0 => ?_)).symm
      rw [h0, len_zero] at hlen
      omega
  have ha : (sg b (val l)).natAbs = val l := sg_abs b (val l)
  refine ⟨_, rfl, hbn, ?_, by rw [ha]; exact hn, ?_⟩
  · unfold zl
    rw [ha, ← hlen]
    exact h.len.symm
  · have h1 := dval_any (sg b (val l)) e
    rw [← hbn, ha, hd, hv0] at h1
    unfold Dv
    by_cases h0 : sg b (val l) = 0
    · rw [if_pos h0] at h1
      exact Or.inl ⟨h0, of_decide_eq_true h1.symm⟩
    · rw [if_neg h0] at h1
      exact Or.inr ⟨h0, h1.symm⟩

set_option maxHeartbeats 4000000 in
theorem r10valid_any (m e n f : Int) (vx : Value) (w : World) (hx : IsI w vx m e n f) (lm : zl m ≤ 1000) (ln : zl n ≤ 1000) (he : -70000 ≤ e ∧ e ≤ 70000) (hf : -70000 ≤ f ∧ f ≤ 70000) (hv : Dv m e) (hv2 : Dv n f) :
    Calls Tryz.prog 41 #[vx] w (RetB w (decide (dcm m e n f ≤ 0))) := by
  obtain ⟨A, c, B, d, rfl, hn1, hn2⟩ := hx.form
  have L0 := ((Lq.mk0 w).n hn2).n hn1
  have hok : ∀ m e : Int, Dv m e → (if m = 0 then decide (e = 0) else fits8 m e) = true := fun m e h => by
    rcases h with ⟨h1, h2⟩ | ⟨h1, h2⟩
    · rw [if_pos h1, h2]; rfl
    · rw [if_neg h1, h2]
  have v1 := fun v W h => rvalid8_d m e v W h (by omega)
  have v2 := fun v W h => rvalid8_d n f v W h (by omega)
  rw [hok m e hv] at v1
  rw [hok n f hv2] at v2
  have V1 := Lib.hid v1
  have V2 := Lib.hid v2
  have H10 := fun v u W h1 h2 => rcmp8_any m e n f v u W h1 h2 (by omega) (by omega) (by omega) (by omega)
  obtain ⟨x1, hx1⟩ : ∃ x, dcm m e n f = x := ⟨_, rfl⟩
  unfold dcm at hx1
  rw [hx1] at H10
  have H1 := Lib.hid H10
  clear H10
  show Calls _ _ _ _ (RetB w (decide (cmpI (m * 2 ^ (e - min e f).toNat) (n * 2 ^ (f - min e f).toNat) ≤ 0)))
  rw [hx1]
  clear v1 v2 hok hx hn1 hn2 hx1 lm ln he hf hv hv2
  go_enter Tryz.func41, Tryz.ntmps41
  go_wp2_with fail
  have L := (L0.varI (w.heap.size) (by simp) (ng m) A (zl m) c e (ng n) B (zl n) d f)
  have c00 := L.b0.c60
  have c01 := L.b0.c61
  have c02 := L.b0.c62
  have c03 := L.b0.c63
  have c04 := L.b0.c64
  have c05 := L.b0.c65
  (try go_wp2_with fail)
  refine (V1.out _ _ (isD_n (m := m) (e := e) (s := .slice A (zl m) c) (L.getN (v := .slice A (zl m) c) (x := (m).natAbs) (by simp)))).mono ?_
  rintro e w1 ⟨rfl, be⟩
  clear c00 c01 c02 c03 c04 c05
  replace L := L.step be
  clear be
  have c00 := L.b0.c60
  have c01 := L.b0.c61
  have c02 := L.b0.c62
  have c03 := L.b0.c63
  have c04 := L.b0.c64
  have c05 := L.b0.c65
  (try go_wp2_with fail)
  refine (V2.out _ _ (isD_n (m := n) (e := f) (s := .slice B (zl n) d) (L.getN (v := .slice B (zl n) d) (x := (n).natAbs) (by simp)))).mono ?_
  rintro e w2 ⟨rfl, be⟩
  clear c00 c01 c02 c03 c04 c05
  replace L := L.step be
  clear be
  have c00 := L.b0.c60
  have c01 := L.b0.c61
  have c02 := L.b0.c62
  have c03 := L.b0.c63
  have c04 := L.b0.c64
  have c05 := L.b0.c65
  (try go_wp2_with fail)
  refine (H1.out _ _ _ (isD_n (m := m) (e := e) (s := .slice A (zl m) c) (L.getN (v := .slice A (zl m) c) (x := (m).natAbs) (by simp))) (isD_n (m := n) (e := f) (s := .slice B (zl n) d) (L.getN (v := .slice B (zl n) d) (x := (n).natAbs) (by simp)))).mono ?_
  rintro e w3 ⟨rfl, be⟩
  clear c00 c01 c02 c03 c04 c05
  replace L := L.step be
  clear be
  have c00 := L.b0.c60
  have c01 := L.b0.c61
  have c02 := L.b0.c62
  have c03 := L.b0.c63
  have c04 := L.b0.c64
  have c05 := L.b0.c65
  (try go_wp2_with fail)
  go_ret
  exact ⟨rfl, L.below⟩
set_option maxHeartbeats 4000000 in
theorem r10raw_any (b b' : Bool) (l l' : List Nat) (A A' : Option Addr) (p c p' c' : Nat) (e e' : Int) (w : World) (h : Sl w A p c l) (h' : Sl w A' p' c' l') (hp : p ≤ 20) (hp' : p' ≤ 20) :
    Calls Tryz.prog 41 #[.agg #[.bool b, .slice A p c, .int .i64 e, .bool b', .slice A' p' c', .int .i64 e']] w (RetB w (dval b l e && (dval b' l' e' && decide (dcm (sg b (val l)) e (sg b' (val l')) e' ≤ 0)))) := by
  have V1 := Lib.hid (fun W (hW : Below w.heap.size w W) => rvalid8_any b l A p c e W (h.mono hW) (by omega))
  have V2 := Lib.hid (fun W (hW : Below w.heap.size w W) => rvalid8_any b' l' A' p' c' e' W (h'.mono hW) (by omega))
  cases d1 : dval b l e
  · rw [Bool.false_and]
    rw [d1] at V1
    clear d1 h h' hp hp'
    go_enter Tryz.func41, Tryz.ntmps41
    go_wp2_with fail
    have L := ((Lq.mk0 w).varI (w.heap.size) (by simp) b A p c e b' A' p' c' e')
    have c00 := L.b0.c60
    have c01 := L.b0.c61
    have c02 := L.b0.c62
    have c03 := L.b0.c63
    have c04 := L.b0.c64
    have c05 := L.b0.c65
    (try go_wp2_with fail)
    refine (V1.out _ L.below).mono ?_
    rintro e w1 ⟨rfl, be⟩
    clear c00 c01 c02 c03 c04 c05
    replace L := L.step be
    clear be
    have c00 := L.b0.c60
    have c01 := L.b0.c61
    have c02 := L.b0.c62
    have c03 := L.b0.c63
    have c04 := L.b0.c64
    have c05 := L.b0.c65
    (try go_wp2_with fail)
    go_ret
    exact ⟨rfl, L.below⟩
  · rw [Bool.true_and]
    cases d2 : dval b' l' e'
    · rw [Bool.false_and]
      rw [d1] at V1
      rw [d2] at V2
      clear d1 d2 h h' hp hp'
      go_enter Tryz.func41, Tryz.ntmps41
      go_wp2_with fail
      have L := ((Lq.mk0 w).varI (w.heap.size) (by simp) b A p c e b' A' p' c' e')
      have c00 := L.b0.c60
      have c01 := L.b0.c61
      have c02 := L.b0.c62
      have c03 := L.b0.c63
      have c04 := L.b0.c64
      have c05 := L.b0.c65
      (try go_wp2_with fail)
      refine (V1.out _ L.below).mono ?_
      rintro e w1 ⟨rfl, be⟩
      clear c00 c01 c02 c03 c04 c05
      replace L := L.step be
      clear be
      have c00 := L.b0.c60
      have c01 := L.b0.c61
      have c02 := L.b0.c62
      have c03 := L.b0.c63
      have c04 := L.b0.c64
      have c05 := L.b0.c65
      (try go_wp2_with fail)
      refine (V2.out _ L.below).mono ?_
      rintro e w2 ⟨rfl, be⟩
      clear c00 c01 c02 c03 c04 c05
      replace L := L.step be
      clear be
      have c00 := L.b0.c60
      have c01 := L.b0.c61
      have c02 := L.b0.c62
      have c03 := L.b0.c63
      have c04 := L.b0.c64
      have c05 := L.b0.c65
      (try go_wp2_with fail)
      go_ret
      exact ⟨rfl, L.below⟩
    · rw [Bool.true_and]
      obtain ⟨m, r1, r2, r3, r4, r5⟩ := dval_pair h d1
      obtain ⟨n, r6, r7, r8, r9, r10⟩ := dval_pair h' d2
      rw [r1, r6]
      have x1 := dv_bound r5
      have x2 := dv_bound r10
      clear V1 V2 d1 d2 h h' r1 r6
      subst r2 r7 r3 r8
      exact r10valid_any m e n e' _ w (isI_n r4 r9) (by omega) (by omega) (by omega) (by omega) r5 r10
set_option maxHeartbeats 4000000 in
theorem r10same_any (m e n f m2 e2 n2 f2 : Int) (vx vy : Value) (w : World) (hx : IsI w vx m e n f) (hy : IsI w vy m2 e2 n2 f2) (lm : zl m ≤ 1000) (ln : zl n ≤ 1000) (lm2 : zl m2 ≤ 1000) (ln2 : zl n2 ≤ 1000) (he : -20000 ≤ e ∧ e ≤ 20000) (hf : -20000 ≤ f ∧ f ≤ 20000) (he2 : -20000 ≤ e2 ∧ e2 ≤ 20000) (hf2 : -20000 ≤ f2 ∧ f2 ≤ 20000) :
    Calls Tryz.prog 20 #[vx, vy] w (RetB w ((decide (e = e2) && decide (m = m2)) && (decide (f = f2) && decide (n = n2)))) := by
  obtain ⟨A, c, B, d, rfl, hn1, hn2⟩ := hx.form
  obtain ⟨A2, k2, B2, d2, rfl, hn3, hn4⟩ := hy.form
  have L0 := ((((Lq.mk0 w).n hn4).n hn3).n hn2).n hn1
  have H1 := Lib.hid (fun v u W h1 h2 => same8_any m e m2 e2 v u W h1 h2)
  have H2 := Lib.hid (fun v u W h1 h2 => same8_any n f n2 f2 v u W h1 h2)
  generalize (decide (e = e2) && decide (m = m2)) = r1 at *
  generalize (decide (f = f2) && decide (n = n2)) = r2 at *
  clear hx hy hn1 hn2 hn3 hn4 lm ln lm2 ln2 he hf he2 hf2
  cases r1
  · rw [Bool.false_and]
    go_enter Tryz.func20, Tryz.ntmps20
    go_wp2_with fail
    have L := ((L0.varI (w.heap.size) (by simp) (ng m) A (zl m) c e (ng n) B (zl n) d f).varI (w.heap.size + 1) (by simp) (ng m2) A2 (zl m2) k2 e2 (ng n2) B2 (zl n2) d2 f2)
    have c00 := L.b0.c60
    have c01 := L.b0.c61
    have c02 := L.b0.c62
    have c03 := L.b0.c63
    have c04 := L.b0.c64
    have c05 := L.b0.c65
    have c10 := L.tl.b0.c60
    have c11 := L.tl.b0.c61
    have c12 := L.tl.b0.c62
    have c13 := L.tl.b0.c63
    have c14 := L.tl.b0.c64
    have c15 := L.tl.b0.c65
    (try go_wp2_with fail)
    refine (H1.out _ _ _ (isD_n (m := m) (e := e) (s := .slice A (zl m) c) (L.getN (v := .slice A (zl m) c) (x := (m).natAbs) (by simp))) (isD_n (m := m2) (e := e2) (s := .slice A2 (zl m2) k2) (L.getN (v := .slice A2 (zl m2) k2) (x := (m2).natAbs) (by simp)))).mono ?_
    rintro e w1 ⟨rfl, be⟩
    clear c00 c01 c02 c03 c04 c05 c10 c11 c12 c13 c14 c15
    replace L := L.step be
    clear be
    have c00 := L.b0.c60
    have c01 := L.b0.c61
    have c02 := L.b0.c62
    have c03 := L.b0.c63
    have c04 := L.b0.c64
    have c05 := L.b0.c65
    have c10 := L.tl.b0.c60
    have c11 := L.tl.b0.c61
    have c12 := L.tl.b0.c62
    have c13 := L.tl.b0.c63
    have c14 := L.tl.b0.c64
    have c15 := L.tl.b0.c65
    (try go_wp2_with fail)
    go_ret
    exact ⟨rfl, L.below⟩
  · rw [Bool.true_and]
    go_enter Tryz.func20, Tryz.ntmps20
    go_wp2_with fail
    have L := ((L0.varI (w.heap.size) (by simp) (ng m) A (zl m) c e (ng n) B (zl n) d f).varI (w.heap.size + 1) (by simp) (ng m2) A2 (zl m2) k2 e2 (ng n2) B2 (zl n2) d2 f2)
    have c00 := L.b0.c60
    have c01 := L.b0.c61
    have c02 := L.b0.c62
    have c03 := L.b0.c63
    have c04 := L.b0.c64
    have c05 := L.b0.c65
    have c10 := L.tl.b0.c60
    have c11 := L.tl.b0.c61
    have c12 := L.tl.b0.c62
    have c13 := L.tl.b0.c63
    have c14 := L.tl.b0.c64
    have c15 := L.tl.b0.c65
    (try go_wp2_with fail)
    refine (H1.out _ _ _ (isD_n (m := m) (e := e) (s := .slice A (zl m) c) (L.getN (v := .slice A (zl m) c) (x := (m).natAbs) (by simp))) (isD_n (m := m2) (e := e2) (s := .slice A2 (zl m2) k2) (L.getN (v := .slice A2 (zl m2) k2) (x := (m2).natAbs) (by simp)))).mono ?_
    rintro e w1 ⟨rfl, be⟩
    clear c00 c01 c02 c03 c04 c05 c10 c11 c12 c13 c14 c15
    replace L := L.step be
    clear be
    have c00 := L.b0.c60
    have c01 := L.b0.c61
    have c02 := L.b0.c62
    have c03 := L.b0.c63
    have c04 := L.b0.c64
    have c05 := L.b0.c65
    have c10 := L.tl.b0.c60
    have c11 := L.tl.b0.c61
    have c12 := L.tl.b0.c62
    have c13 := L.tl.b0.c63
    have c14 := L.tl.b0.c64
    have c15 := L.tl.b0.c65
    (try go_wp2_with fail)
    refine (H2.out _ _ _ (isD_n (m := n) (e := f) (s := .slice B (zl n) d) (L.getN (v := .slice B (zl n) d) (x := (n).natAbs) (by simp))) (isD_n (m := n2) (e := f2) (s := .slice B2 (zl n2) d2) (L.getN (v := .slice B2 (zl n2) d2) (x := (n2).natAbs) (by simp)))).mono ?_
    rintro e w2 ⟨rfl, be⟩
    clear c00 c01 c02 c03 c04 c05 c10 c11 c12 c13 c14 c15
    replace L := L.step be
    clear be
    (try go_wp2_with fail)
    go_ret
    exact ⟨rfl, L.below⟩
end Go.Proofs.YtoobcngbnjeddaaGreatDoor


/- The reference's Has, Hull, Meet. -/
namespace Go.Proofs.YtoobcngbnjeddaaGreatDoor
open Go.RowKit
set_option linter.unusedVariables false
set_option linter.unusedSimpArgs false
set_option maxRecDepth 100000
attribute [local go_sem ↓] Go.wp_at_zero Go.wp_at_succ

end Go.Proofs.YtoobcngbnjeddaaGreatDoor


/- The reference's Shift, Width, Mid. -/
namespace Go.Proofs.YtoobcngbnjeddaaGreatDoor
open Go.RowKit
set_option linter.unusedVariables false
set_option linter.unusedSimpArgs false
set_option maxRecDepth 100000
attribute [local go_sem ↓] Go.wp_at_zero Go.wp_at_succ

set_option maxHeartbeats 4000000 in
theorem rshift8_any (m e k : Int) (vx : Value) (w : World) (hx : IsD w vx m e) (lm : zl m ≤ 100000) (he : -1000000 ≤ e ∧ e ≤ 1000000) (hk : -65536 ≤ k ∧ k ≤ 65536) :
    Calls Tryz.prog 37 #[vx, .int .i64 k] w (RetDE w (mkM m (e + k)) (mkE m (e + k)) (mkR m (e + k))) := by
  obtain ⟨A, c, rfl, hz, hn⟩ := hx.form
  have L0 := (Lq.mk0 w).z hz
  obtain ⟨s, hs⟩ : ∃ s, e + k = s := ⟨_, rfl⟩
  have hw : IntKind.i64.wrap (e + k) = s := by rw [← hs, IntKind.wrap_i64]; omega
  have b1 : decide (k < -65536) = false := decide_eq_false (by omega)
  have b2 : decide (65536 < k) = false := decide_eq_false (by omega)
  have HM0 := fun v W h => rmake8_any m s v W h (by omega)
  rw [hs]
  generalize mkM m s = M at *
  generalize mkE m s = E at *
  generalize mkR m s = R at *
  have HM := Lib.hid HM0
  clear HM0 hs hx hz hn lm he hk
  go_enter Tryz.func37, Tryz.ntmps37
  go_wp2_with fail
  have L := ((L0.varD (w.heap.size) (by simp) (ng m) A (zl m) c e).varD (w.heap.size + 1) (by simp) false none 0 0 0)
  have c00 := L.b0.c30
  have f00 := L.b0.fr 0
  have c01 := L.b0.c31
  have f01 := L.b0.fr 1
  have c02 := L.b0.c32
  have f02 := L.b0.fr 2
  have c10 := L.tl.b0.c30
  have f10 := L.tl.b0.fr 0
  have c11 := L.tl.b0.c31
  have f11 := L.tl.b0.fr 1
  have c12 := L.tl.b0.c32
  have f12 := L.tl.b0.fr 2
  (try go_wp2_with fail)
  refine (HM.out _ _ (L.getZ (v := .agg #[.bool (ng m), .slice A (zl m) c]) (by simp))).mono ?_
  rintro e w1 ⟨v8, rfl, id, be⟩
  clear c00 f00 c01 f01 c02 f02 c10 f10 c11 f11 c12 f12
  obtain ⟨A9, c9, rfl, _, in9⟩ := id.form
  replace L := (L.step be).n in9
  clear be in9 id
  have c00 := L.b0.c30
  have f00 := L.b0.fr 0
  have c01 := L.b0.c31
  have f01 := L.b0.fr 1
  have c02 := L.b0.c32
  have f02 := L.b0.fr 2
  have c10 := L.tl.b0.c30
  have c11 := L.tl.b0.c31
  have c12 := L.tl.b0.c32
  (try go_wp2_with fail)
  have LP := L.putD (by omega) (by first | (simp; done) | (simp; omega)) (ng M) A9 (zl M) c9 (E)
  have k0 := LP.b0.c30
  have k1 := LP.b0.c31
  have k2 := LP.b0.c32
  unfold put3 at k0 k1 k2
  exact bodyPost_ret (v := .tuple #[.agg #[.bool (ng M), .slice A9 (zl M) c9, .int .i64 (E)], .int .i64 R]) (by simp [results, Tryz.results37, go_sem, k0, k1, k2]) rfl ⟨_, rfl, isD_n LP.hn, LP.below⟩
end Go.Proofs.YtoobcngbnjeddaaGreatDoor


/- The mill's intervals; the laws' two, and their interval between two integers. -/
namespace Go.Proofs.YtoobcngbnjeddaaGreatDoor
open Go.RowKit
set_option linter.unusedVariables false
set_option linter.unusedSimpArgs false
set_option maxRecDepth 100000
attribute [local go_sem ↓] Go.wp_at_zero Go.wp_at_succ

/-- A valid interval that is short enough, or what the mill left, and whether it is. -/
def RetMillI (w : World) (k K : Nat) (en : Ending) (w' : World) : Prop := ∃ v ok m e n f, en = .returned (.tuple #[v, .bool ok]) ∧ IsI w' v m e n f ∧ (zl m ≤ k + 1 ∧ zl n ≤ k + 1) ∧ (-(K : Int) ≤ e ∧ e ≤ (K : Int) + 32 * ((k : Int) + 1)) ∧ (-(K : Int) ≤ f ∧ f ≤ (K : Int) + 32 * ((k : Int) + 1)) ∧ (ok = true → Dv m e ∧ Dv n f) ∧ dcm m e n f ≤ 0 ∧ Below w.heap.size w w'

set_option maxHeartbeats 8000000 in
theorem millI_any (b b' : Bool) (l l' : List Nat) (k K : Nat) (A A' : Option Addr) (p c p' c' : Nat) (e e' : Int) (w : World) (h : Sl w A p c l) (h' : Sl w A' p' c' l') (hk : k ≤ 1000) (hK : K ≤ 1000) (h1 : -9223372036854775808 ≤ e) (h2 : e ≤ 9223372036854775807) (h3 : -9223372036854775808 ≤ e') (h4 : e' ≤ 9223372036854775807) :
    Calls Tryz.prog 43 #[.agg #[.bool b, .slice A p c, .int .i64 e, .bool b', .slice A' p' c', .int .i64 e'], .int .i64 (k : Int), .int .i64 (K : Int)] w (RetMillI w k K) := by
  have H1 := Lib.hid (fun W (hW : Below w.heap.size w W) => millD_any b l k K A p c e W (h.mono hW) (by omega) (by omega) h1 h2)
  have H2 := Lib.hid (fun W (hW : Below w.heap.size w W) => millD_any b' l' k K A' p' c' e' W (h'.mono hW) (by omega) (by omega) h3 h4)
  clear h h' h1 h2 h3 h4
  go_enter Tryz.func43, Tryz.ntmps43
  go_wp2_with fail
  have L := (((Lq.mk0 w).varI (w.heap.size) (by simp) b A p c e b' A' p' c' e').varI (w.heap.size + 1) (by simp) false none 0 0 0 false none 0 0 0)
  have c00 := L.b0.c60
  have c01 := L.b0.c61
  have c02 := L.b0.c62
  have c03 := L.b0.c63
  have c04 := L.b0.c64
  have c05 := L.b0.c65
  have c10 := L.tl.b0.c60
  have c11 := L.tl.b0.c61
  have c12 := L.tl.b0.c62
  have c13 := L.tl.b0.c63
  have c14 := L.tl.b0.c64
  have c15 := L.tl.b0.c65
  (try go_wp2_with fail)
  refine (H1.out _ L.below).mono ?_
  rintro e w1 ⟨v1, ok1, m, me, rfl, id, lm, lm2, lm3, dm, be⟩
  clear c00 c01 c02 c03 c04 c05 c10 c11 c12 c13 c14 c15
  obtain ⟨A1, c1, rfl, _, in9⟩ := id.form
  replace L := (L.step be).n in9
  clear be id in9
  have hlg := L.b0.lt
  replace L := L.varD w1.heap.size rfl (ng m) A1 (zl m) c1 me
  have c00 := L.b0.c30
  have c01 := L.b0.c31
  have c02 := L.b0.c32
  have c20 := L.tl.tl.b0.c60
  have c21 := L.tl.tl.b0.c61
  have c22 := L.tl.tl.b0.c62
  have c23 := L.tl.tl.b0.c63
  have c24 := L.tl.tl.b0.c64
  have c25 := L.tl.tl.b0.c65
  go_wp2_with fail
  obtain ⟨g, hg⟩ : ∃ g, w1.heap.size = g := ⟨_, rfl⟩
  rw [hg] at L hlg c00 c01 c02 ⊢
  clear hg
  clear c00 c01 c02 c20 c21 c22 c23 c24 c25
  refine (H2.out _ L.below).mono ?_
  rintro e w2 ⟨v2, ok2, n, ne, rfl, id, ln, ln2, ln3, dn, be⟩
  obtain ⟨A2, c2, rfl, _, in9⟩ := id.form
  replace L := (L.step be).n in9
  clear be id in9
  have hlk9 := L.b0.lt
  replace L := L.varD w2.heap.size rfl (ng n) A2 (zl n) c2 ne
  obtain ⟨x, hx⟩ : ∃ x, dcm m me n ne = x := ⟨_, rfl⟩
  have hc := fun v u W h1 h2 => rcmp8_any m me n ne v u W h1 h2 (by omega) (by omega) (by omega) (by omega)
  have hx2 := hx
  unfold dcm at hx2
  rw [hx2] at hc
  have HC := Lib.hid hc
  clear hc hx2
  have c00 := L.b0.c30
  have c01 := L.b0.c31
  have c02 := L.b0.c32
  have c10 := L.tl.b0.c30
  have c11 := L.tl.b0.c31
  have c12 := L.tl.b0.c32
  go_wp2_with fail
  obtain ⟨g2, hg⟩ : ∃ g, w2.heap.size = g := ⟨_, rfl⟩
  rw [hg] at L hlk9 c00 c01 c02 ⊢
  clear hg
  refine (HC.out _ _ _ (isD_n (s := .slice A1 (zl m) c1) (L.getN (by simp))) (isD_n (s := .slice A2 (zl n) c2) (L.getN (by simp)))).mono ?_
  rintro e w3 ⟨rfl, be⟩
  clear c00 c01 c02 c10 c11 c12
  replace L := L.step be
  clear be
  have n1 : g2 ≠ g := by omega
  have n2 : w.heap.size + 1 ≠ g := by omega
  have n3 : w.heap.size + 1 ≠ g2 := by omega
  have n4 : w.heap.size ≠ g := by omega
  have n5 : w.heap.size ≠ g2 := by omega
  by_cases q : 0 < x
  · have b1 : decide (0 < x) = true := decide_eq_true q
    have c00 := L.b0.c30
    have f00 := L.b0.fr 0
    have c01 := L.b0.c31
    have f01 := L.b0.fr 1
    have c02 := L.b0.c32
    have f02 := L.b0.fr 2
    have c10 := L.tl.b0.c30
    have f10 := L.tl.b0.fr 0
    have c11 := L.tl.b0.c31
    have f11 := L.tl.b0.fr 1
    have c12 := L.tl.b0.c32
    have f12 := L.tl.b0.fr 2
    have p1 := (L.swap.putD (by omega) (by simp [n1, n2, n3, n4, n5]) (ng n) A2 (zl n) c2 ne)
    have p2 := (p1.swap.putD (by omega) (by simp [n1, n2, n3, n4, n5, Ne.symm n1]) (ng m) A1 (zl m) c1 me)
    have x10 := p1.b0.c30
    have x11 := p1.b0.c31
    have x12 := p1.b0.c32
    have x20 := p1.tl.b0.c30
    have x21 := p1.tl.b0.c31
    have x22 := p1.tl.b0.c32
    have y20 := p1.tl.b0.fr 0
    have y21 := p1.tl.b0.fr 1
    have y22 := p1.tl.b0.fr 2
    have x30 := p2.b0.c30
    have x31 := p2.b0.c31
    have x32 := p2.b0.c32
    have x40 := p2.tl.b0.c30
    have x41 := p2.tl.b0.c31
    have x42 := p2.tl.b0.c32
    replace L := p2.pull2
    have z0 := L.b0.fr 0
    have z1 := L.b0.fr 1
    have z2 := L.b0.fr 2
    have z3 := L.b0.fr 3
    have z4 := L.b0.fr 4
    have z5 := L.b0.fr 5
    clear p1 p2
    unfold put3 at *
    have hxs : dcm n ne m me ≤ 0 := by rw [dcm_swap m me n ne, hx]; omega
    cases ok1
    · skip
      have c00 := L.b0.c60
      have f00 := L.b0.fr 0
      have c01 := L.b0.c61
      have f01 := L.b0.fr 1
      have c02 := L.b0.c62
      have f02 := L.b0.fr 2
      have c03 := L.b0.c63
      have f03 := L.b0.fr 3
      have c04 := L.b0.c64
      have f04 := L.b0.fr 4
      have c05 := L.b0.c65
      have f05 := L.b0.fr 5
      have c10 := L.tl.b0.c30
      have c11 := L.tl.b0.c31
      have c12 := L.tl.b0.c32
      have c20 := L.tl.tl.b0.c30
      have c21 := L.tl.tl.b0.c31
      have c22 := L.tl.tl.b0.c32
      go_wp2_with fail
      have LP := L.putI (by omega) (by simp [n1, n2, n3, n4, n5, Ne.symm n2, Ne.symm n3]) (ng n) A2 (zl n) c2 ne (ng m) A1 (zl m) c1 me
      have k0 := LP.b0.c60
      have k1 := LP.b0.c61
      have k2 := LP.b0.c62
      have k3 := LP.b0.c63
      have k4 := LP.b0.c64
      have k5 := LP.b0.c65
      unfold put6 at k0 k1 k2 k3 k4 k5
      exact bodyPost_ret (v := .tuple #[.agg #[.bool (ng n), .slice A2 (zl n) c2, .int .i64 ne, .bool (ng m), .slice A1 (zl m) c1, .int .i64 me], .bool false]) (by simp [results, Tryz.results43, go_sem, k0, k1, k2, k3, k4, k5]) rfl ⟨_, _, _, _, _, _, rfl, isI_n (LP.getN (by simp)) (LP.getN (by simp)), ⟨ln, lm⟩, ⟨by omega, by omega⟩, ⟨by omega, by omega⟩, fun h => (by cases h), hxs, LP.below⟩
    · skip
      have c00 := L.b0.c60
      have f00 := L.b0.fr 0
      have c01 := L.b0.c61
      have f01 := L.b0.fr 1
      have c02 := L.b0.c62
      have f02 := L.b0.fr 2
      have c03 := L.b0.c63
      have f03 := L.b0.fr 3
      have c04 := L.b0.c64
      have f04 := L.b0.fr 4
      have c05 := L.b0.c65
      have f05 := L.b0.fr 5
      have c10 := L.tl.b0.c30
      have c11 := L.tl.b0.c31
      have c12 := L.tl.b0.c32
      have c20 := L.tl.tl.b0.c30
      have c21 := L.tl.tl.b0.c31
      have c22 := L.tl.tl.b0.c32
      go_wp2_with fail
      have LP := L.putI (by omega) (by simp [n1, n2, n3, n4, n5, Ne.symm n2, Ne.symm n3]) (ng n) A2 (zl n) c2 ne (ng m) A1 (zl m) c1 me
      have k0 := LP.b0.c60
      have k1 := LP.b0.c61
      have k2 := LP.b0.c62
      have k3 := LP.b0.c63
      have k4 := LP.b0.c64
      have k5 := LP.b0.c65
      unfold put6 at k0 k1 k2 k3 k4 k5
      exact bodyPost_ret (v := .tuple #[.agg #[.bool (ng n), .slice A2 (zl n) c2, .int .i64 ne, .bool (ng m), .slice A1 (zl m) c1, .int .i64 me], .bool ok2]) (by simp [results, Tryz.results43, go_sem, k0, k1, k2, k3, k4, k5]) rfl ⟨_, _, _, _, _, _, rfl, isI_n (LP.getN (by simp)) (LP.getN (by simp)), ⟨ln, lm⟩, ⟨by omega, by omega⟩, ⟨by omega, by omega⟩, fun h => ⟨dn h, dm (by first | trivial | rfl)⟩, hxs, LP.below⟩
  · have b1 : decide (0 < x) = false := decide_eq_false q
    replace L := L.pull2
    cases ok1
    · skip
      have c00 := L.b0.c60
      have f00 := L.b0.fr 0
      have c01 := L.b0.c61
      have f01 := L.b0.fr 1
      have c02 := L.b0.c62
      have f02 := L.b0.fr 2
      have c03 := L.b0.c63
      have f03 := L.b0.fr 3
      have c04 := L.b0.c64
      have f04 := L.b0.fr 4
      have c05 := L.b0.c65
      have f05 := L.b0.fr 5
      have c10 := L.tl.b0.c30
      have c11 := L.tl.b0.c31
      have c12 := L.tl.b0.c32
      have c20 := L.tl.tl.b0.c30
      have c21 := L.tl.tl.b0.c31
      have c22 := L.tl.tl.b0.c32
      go_wp2_with fail
      have LP := L.putI (by omega) (by simp [n1, n2, n3, n4, n5, Ne.symm n2, Ne.symm n3]) (ng m) A1 (zl m) c1 me (ng n) A2 (zl n) c2 ne
      have k0 := LP.b0.c60
      have k1 := LP.b0.c61
      have k2 := LP.b0.c62
      have k3 := LP.b0.c63
      have k4 := LP.b0.c64
      have k5 := LP.b0.c65
      unfold put6 at k0 k1 k2 k3 k4 k5
      exact bodyPost_ret (v := .tuple #[.agg #[.bool (ng m), .slice A1 (zl m) c1, .int .i64 me, .bool (ng n), .slice A2 (zl n) c2, .int .i64 ne], .bool false]) (by simp [results, Tryz.results43, go_sem, k0, k1, k2, k3, k4, k5]) rfl ⟨_, _, _, _, _, _, rfl, isI_n (LP.getN (by simp)) (LP.getN (by simp)), ⟨lm, ln⟩, ⟨by omega, by omega⟩, ⟨by omega, by omega⟩, fun h => (by cases h), (by rw [hx]; omega), LP.below⟩
    · skip
      have c00 := L.b0.c60
      have f00 := L.b0.fr 0
      have c01 := L.b0.c61
      have f01 := L.b0.fr 1
      have c02 := L.b0.c62
      have f02 := L.b0.fr 2
      have c03 := L.b0.c63
      have f03 := L.b0.fr 3
      have c04 := L.b0.c64
      have f04 := L.b0.fr 4
      have c05 := L.b0.c65
      have f05 := L.b0.fr 5
      have c10 := L.tl.b0.c30
      have c11 := L.tl.b0.c31
      have c12 := L.tl.b0.c32
      have c20 := L.tl.tl.b0.c30
      have c21 := L.tl.tl.b0.c31
      have c22 := L.tl.tl.b0.c32
      go_wp2_with fail
      have LP := L.putI (by omega) (by simp [n1, n2, n3, n4, n5, Ne.symm n2, Ne.symm n3]) (ng m) A1 (zl m) c1 me (ng n) A2 (zl n) c2 ne
      have k0 := LP.b0.c60
      have k1 := LP.b0.c61
      have k2 := LP.b0.c62
      have k3 := LP.b0.c63
      have k4 := LP.b0.c64
      have k5 := LP.b0.c65
      unfold put6 at k0 k1 k2 k3 k4 k5
      exact bodyPost_ret (v := .tuple #[.agg #[.bool (ng m), .slice A1 (zl m) c1, .int .i64 me, .bool (ng n), .slice A2 (zl n) c2, .int .i64 ne], .bool ok2]) (by simp [results, Tryz.results43, go_sem, k0, k1, k2, k3, k4, k5]) rfl ⟨_, _, _, _, _, _, rfl, isI_n (LP.getN (by simp)) (LP.getN (by simp)), ⟨lm, ln⟩, ⟨by omega, by omega⟩, ⟨by omega, by omega⟩, fun h => ⟨dm (by first | trivial | rfl), dn h⟩, (by rw [hx]; omega), LP.below⟩
end Go.Proofs.YtoobcngbnjeddaaGreatDoor


/- The laws' pair of intervals. -/
namespace Go.Proofs.YtoobcngbnjeddaaGreatDoor
open Go.RowKit
set_option linter.unusedVariables false
set_option linter.unusedSimpArgs false
set_option maxRecDepth 100000
attribute [local go_sem ↓] Go.wp_at_zero Go.wp_at_succ

theorem Lq.four10 {w0 w : World} {ns : List (Value × Nat)} {zs : List (Value × Int)} {qs : List (Value × Int × Nat)} {p q r s t u : Nat × TypeId × Array Value} (h : Lq w0 w ns zs qs [p, q, r, s, t, u]) : Lq w0 w ns zs qs [s, r, q, p] :=
  ⟨h.below, h.ns, h.zs, h.qs, fun x hx => h.bs x (by simp only [List.mem_cons] at hx ⊢; rcases hx with h | h | h | h | h <;> simp_all)⟩
/-- Two valid intervals that are short enough, or what the mill left, and whether they are. -/
def RetTwoI (w : World) (en : Ending) (w' : World) : Prop := ∃ v u ok m e n f m2 e2 n2 f2, en = .returned (.tuple #[v, u, .bool ok]) ∧ IsI w' v m e n f ∧ IsI w' u m2 e2 n2 f2 ∧ (zl m ≤ 6 ∧ (-60 ≤ e ∧ e ≤ 252)) ∧ (zl n ≤ 6 ∧ (-60 ≤ f ∧ f ≤ 252)) ∧ (zl m2 ≤ 6 ∧ (-60 ≤ e2 ∧ e2 ≤ 252)) ∧ (zl n2 ≤ 6 ∧ (-60 ≤ f2 ∧ f2 ≤ 252)) ∧ (ok = true → Dv m e ∧ Dv n f ∧ Dv m2 e2 ∧ Dv n2 f2) ∧ dcm m e n f ≤ 0 ∧ dcm m2 e2 n2 f2 ≤ 0 ∧ Below w.heap.size w w'

set_option maxHeartbeats 8000000 in
theorem two11_any (b0 bb0 : Bool) (z0 zz0 : List Nat) (a0 aa0 : Option Addr) (len0 cap0 ll0 cc0 : Nat) (f0 ff0 : Int) (b1 bb1 : Bool) (z1 zz1 : List Nat) (a1 aa1 : Option Addr) (len1 cap1 ll1 cc1 : Nat) (f1 ff1 : Int) (w : World) (h0 : Sl w a0 len0 cap0 z0) (k0 : Sl w aa0 ll0 cc0 zz0) (u0 : -9223372036854775808 ≤ f0 ∧ f0 ≤ 9223372036854775807) (t0 : -9223372036854775808 ≤ ff0 ∧ ff0 ≤ 9223372036854775807) (h1 : Sl w a1 len1 cap1 z1) (k1 : Sl w aa1 ll1 cc1 zz1) (u1 : -9223372036854775808 ≤ f1 ∧ f1 ≤ 9223372036854775807) (t1 : -9223372036854775808 ≤ ff1 ∧ ff1 ≤ 9223372036854775807) :
    Calls Tryz.prog 10 #[.agg #[.bool b0, .slice a0 len0 cap0, .int .i64 f0, .bool bb0, .slice aa0 ll0 cc0, .int .i64 ff0], .agg #[.bool b1, .slice a1 len1 cap1, .int .i64 f1, .bool bb1, .slice aa1 ll1 cc1, .int .i64 ff1]] w (RetTwoI w) := by
  have H0 := Lib.hid (fun W (hW : Below w.heap.size w W) => millI_any b0 bb0 z0 zz0 4 50 a0 aa0 len0 cap0 ll0 cc0 f0 ff0 W (h0.mono hW) (k0.mono hW) (by omega) (by omega) u0.1 u0.2 t0.1 t0.2)
  have H1 := Lib.hid (fun W (hW : Below w.heap.size w W) => millI_any b1 bb1 z1 zz1 4 50 a1 aa1 len1 cap1 ll1 cc1 f1 ff1 W (h1.mono hW) (k1.mono hW) (by omega) (by omega) u1.1 u1.2 t1.1 t1.2)
  clear h0 h1 k0 k1 u0 u1 t0 t1
  go_enter Tryz.func10, Tryz.ntmps10
  go_wp2_with fail
  have L := (((((Lq.mk0 w).varI (w.heap.size) (by simp) b0 a0 len0 cap0 f0 bb0 aa0 ll0 cc0 ff0).varI (w.heap.size + 1) (by simp) b1 a1 len1 cap1 f1 bb1 aa1 ll1 cc1 ff1).varI (w.heap.size + 2) (by simp) false none 0 0 0 false none 0 0 0).varI (w.heap.size + 3) (by simp) false none 0 0 0 false none 0 0 0)
  have c00 := L.b0.c60
  have c01 := L.b0.c61
  have c02 := L.b0.c62
  have c03 := L.b0.c63
  have c04 := L.b0.c64
  have c05 := L.b0.c65
  have c10 := L.tl.b0.c60
  have c11 := L.tl.b0.c61
  have c12 := L.tl.b0.c62
  have c13 := L.tl.b0.c63
  have c14 := L.tl.b0.c64
  have c15 := L.tl.b0.c65
  have c20 := L.tl.tl.b0.c60
  have c21 := L.tl.tl.b0.c61
  have c22 := L.tl.tl.b0.c62
  have c23 := L.tl.tl.b0.c63
  have c24 := L.tl.tl.b0.c64
  have c25 := L.tl.tl.b0.c65
  have c30 := L.tl.tl.tl.b0.c60
  have c31 := L.tl.tl.tl.b0.c61
  have c32 := L.tl.tl.tl.b0.c62
  have c33 := L.tl.tl.tl.b0.c63
  have c34 := L.tl.tl.tl.b0.c64
  have c35 := L.tl.tl.tl.b0.c65
  (try go_wp2_with fail)
  refine (H0.out _ L.below).mono ?_
  rintro e w1 ⟨v1, ok1, m, e, n, f, rfl, ii, ⟨lzm, lzn⟩, ⟨x1e, x2e⟩, ⟨x1f, x2f⟩, dv1, le1, be⟩
  clear c00 c01 c02 c03 c04 c05 c10 c11 c12 c13 c14 c15 c20 c21 c22 c23 c24 c25 c30 c31 c32 c33 c34 c35
  obtain ⟨A, c, B, d, rfl, ia, ib⟩ := ii.form
  replace L := ((L.step be).n ib).n ia
  clear be ii ia ib
  have hlt1 := L.b0.lt
  replace L := L.varI w1.heap.size rfl (ng m) A (zl m) c e (ng n) B (zl n) d f
  have c00 := L.b0.c60
  have c01 := L.b0.c61
  have c02 := L.b0.c62
  have c03 := L.b0.c63
  have c04 := L.b0.c64
  have c05 := L.b0.c65
  have c30 := L.tl.tl.tl.b0.c60
  have c31 := L.tl.tl.tl.b0.c61
  have c32 := L.tl.tl.tl.b0.c62
  have c33 := L.tl.tl.tl.b0.c63
  have c34 := L.tl.tl.tl.b0.c64
  have c35 := L.tl.tl.tl.b0.c65
  go_wp2_with fail
  obtain ⟨g, hg⟩ : ∃ g, w1.heap.size = g := ⟨_, rfl⟩
  rw [hg] at L hlt1 c00 c01 c02 c03 c04 c05 ⊢
  clear hg
  refine (H1.out _ L.below).mono ?_
  rintro e w2 ⟨v2, ok2, m2, e2, n2, f2, rfl, ii, ⟨lzm2, lzn2⟩, ⟨x1e2, x2e2⟩, ⟨x1f2, x2f2⟩, dv2, le2, be⟩
  clear c00 c01 c02 c03 c04 c05 c30 c31 c32 c33 c34 c35
  obtain ⟨A2, k2, B2, d2, rfl, ia, ib⟩ := ii.form
  replace L := ((L.step be).n ib).n ia
  clear be ii ia ib
  have hlt2 := L.b0.lt
  replace L := L.varI w2.heap.size rfl (ng m2) A2 (zl m2) k2 e2 (ng n2) B2 (zl n2) d2 f2
  go_wp2_with fail
  obtain ⟨g1, h1⟩ : ∃ g1, w.heap.size + 1 + 1 = g1 := ⟨_, rfl⟩
  obtain ⟨g2, h2⟩ : ∃ g2, w.heap.size + 1 + 1 + 1 = g2 := ⟨_, rfl⟩
  obtain ⟨g3, h3⟩ : ∃ g3, w2.heap.size = g3 := ⟨_, rfl⟩
  have LL := L.four10
  rw [show w.heap.size + 3 = g2 from h2, show w.heap.size + 2 = g1 from h1, h3] at LL
  rw [h2, h1, h3]
  have d1 : w.heap.size ≤ g1 := by omega
  have dd2 : w.heap.size ≤ g2 := by omega
  have n0 : g1 ≠ g2 := by omega
  have n1 : g1 ≠ g := by omega
  have nn2 : g1 ≠ g3 := by omega
  have n3 : g2 ≠ g := by omega
  have n4 : g2 ≠ g3 := by omega
  have n5 : g ≠ g3 := by omega
  clear L H0 H1 hlt1 hlt2 h1 h2 h3
  cases ok1
  · have hok : (false && ok2) = (false && ok2) := rfl
    have LP := LL.putI d1 (by simp [n0, n1, nn2, Ne.symm n0, Ne.symm n1, Ne.symm nn2]) (ng m) A (zl m) c e (ng n) B (zl n) d f
    have LR := LP.swap.putI dd2 (by simp [n0, n3, n4, Ne.symm n0, Ne.symm n3, Ne.symm n4]) (ng m2) A2 (zl m2) k2 e2 (ng n2) B2 (zl n2) d2 f2
    have x0' := LL.tl.tl.b0.c60
    have x1' := LL.tl.tl.b0.c61
    have x2' := LL.tl.tl.b0.c62
    have x3' := LL.tl.tl.b0.c63
    have x4' := LL.tl.tl.b0.c64
    have x5' := LL.tl.tl.b0.c65
    have y0' := LL.tl.tl.tl.b0.c60
    have y1' := LL.tl.tl.tl.b0.c61
    have y2' := LL.tl.tl.tl.b0.c62
    have y3' := LL.tl.tl.tl.b0.c63
    have y4' := LL.tl.tl.tl.b0.c64
    have y5' := LL.tl.tl.tl.b0.c65
    have r0' := LL.b0.c60
    have r1' := LL.b0.c61
    have r2' := LL.b0.c62
    have r3' := LL.b0.c63
    have r4' := LL.b0.c64
    have r5' := LL.b0.c65
    have t0' := LP.tl.b0.c60
    have t1' := LP.tl.b0.c61
    have t2' := LP.tl.b0.c62
    have t3' := LP.tl.b0.c63
    have t4' := LP.tl.b0.c64
    have t5' := LP.tl.b0.c65
    have p0' := LL.b0.fr 0
    have p1' := LL.b0.fr 1
    have p2' := LL.b0.fr 2
    have p3' := LL.b0.fr 3
    have p4' := LL.b0.fr 4
    have p5' := LL.b0.fr 5
    have u0' := LP.tl.b0.fr 0
    have u1' := LP.tl.b0.fr 1
    have u2' := LP.tl.b0.fr 2
    have u3' := LP.tl.b0.fr 3
    have u4' := LP.tl.b0.fr 4
    have u5' := LP.tl.b0.fr 5
    have v0' := LP.tl.tl.b0.c60
    have v1' := LP.tl.tl.b0.c61
    have v2' := LP.tl.tl.b0.c62
    have v3' := LP.tl.tl.b0.c63
    have v4' := LP.tl.tl.b0.c64
    have v5' := LP.tl.tl.b0.c65
    have s0' := LP.tl.tl.tl.b0.c60
    have s1' := LP.tl.tl.tl.b0.c61
    have s2' := LP.tl.tl.tl.b0.c62
    have s3' := LP.tl.tl.tl.b0.c63
    have s4' := LP.tl.tl.tl.b0.c64
    have s5' := LP.tl.tl.tl.b0.c65
    unfold put6 at t0' t1' t2' t3' t4' t5' u0' u1' u2' u3' u4' u5' v0' v1' v2' v3' v4' v5' s0' s1' s2' s3' s4' s5'
    go_region
    all_goals
      go_wp2_with fail
      have kk0 := LR.b0.c60
      have jj0 := LR.tl.b0.c60
      have kk1 := LR.b0.c61
      have jj1 := LR.tl.b0.c61
      have kk2 := LR.b0.c62
      have jj2 := LR.tl.b0.c62
      have kk3 := LR.b0.c63
      have jj3 := LR.tl.b0.c63
      have kk4 := LR.b0.c64
      have jj4 := LR.tl.b0.c64
      have kk5 := LR.b0.c65
      have jj5 := LR.tl.b0.c65
      unfold put6 at kk0 jj0 kk1 jj1 kk2 jj2 kk3 jj3 kk4 jj4 kk5 jj5
      exact bodyPost_ret (v := .tuple #[.agg #[.bool (ng m), .slice A (zl m) c, .int .i64 e, .bool (ng n), .slice B (zl n) d, .int .i64 f], .agg #[.bool (ng m2), .slice A2 (zl m2) k2, .int .i64 e2, .bool (ng n2), .slice B2 (zl n2) d2, .int .i64 f2], .bool false]) (by simp [results, Tryz.results10, go_sem, kk0, jj0, kk1, jj1, kk2, jj2, kk3, jj3, kk4, jj4, kk5, jj5]) rfl ⟨_, _, _, _, _, _, _, _, _, _, _, rfl, isI_n (LR.drew.getN (by simp)) (LR.drew.getN (by simp)), isI_n (LR.drew.getN (by simp)) (LR.drew.getN (by simp)), ⟨by omega, by omega, by omega⟩, ⟨by omega, by omega, by omega⟩, ⟨by omega, by omega, by omega⟩, ⟨by omega, by omega, by omega⟩, fun h => (by cases h), le1, le2, LR.drew.below⟩
  · have hok : (true && ok2) = (true && ok2) := rfl
    have LP := LL.putI d1 (by simp [n0, n1, nn2, Ne.symm n0, Ne.symm n1, Ne.symm nn2]) (ng m) A (zl m) c e (ng n) B (zl n) d f
    have LR := LP.swap.putI dd2 (by simp [n0, n3, n4, Ne.symm n0, Ne.symm n3, Ne.symm n4]) (ng m2) A2 (zl m2) k2 e2 (ng n2) B2 (zl n2) d2 f2
    have x0' := LL.tl.tl.b0.c60
    have x1' := LL.tl.tl.b0.c61
    have x2' := LL.tl.tl.b0.c62
    have x3' := LL.tl.tl.b0.c63
    have x4' := LL.tl.tl.b0.c64
    have x5' := LL.tl.tl.b0.c65
    have y0' := LL.tl.tl.tl.b0.c60
    have y1' := LL.tl.tl.tl.b0.c61
    have y2' := LL.tl.tl.tl.b0.c62
    have y3' := LL.tl.tl.tl.b0.c63
    have y4' := LL.tl.tl.tl.b0.c64
    have y5' := LL.tl.tl.tl.b0.c65
    have r0' := LL.b0.c60
    have r1' := LL.b0.c61
    have r2' := LL.b0.c62
    have r3' := LL.b0.c63
    have r4' := LL.b0.c64
    have r5' := LL.b0.c65
    have t0' := LP.tl.b0.c60
    have t1' := LP.tl.b0.c61
    have t2' := LP.tl.b0.c62
    have t3' := LP.tl.b0.c63
    have t4' := LP.tl.b0.c64
    have t5' := LP.tl.b0.c65
    have p0' := LL.b0.fr 0
    have p1' := LL.b0.fr 1
    have p2' := LL.b0.fr 2
    have p3' := LL.b0.fr 3
    have p4' := LL.b0.fr 4
    have p5' := LL.b0.fr 5
    have u0' := LP.tl.b0.fr 0
    have u1' := LP.tl.b0.fr 1
    have u2' := LP.tl.b0.fr 2
    have u3' := LP.tl.b0.fr 3
    have u4' := LP.tl.b0.fr 4
    have u5' := LP.tl.b0.fr 5
    have v0' := LP.tl.tl.b0.c60
    have v1' := LP.tl.tl.b0.c61
    have v2' := LP.tl.tl.b0.c62
    have v3' := LP.tl.tl.b0.c63
    have v4' := LP.tl.tl.b0.c64
    have v5' := LP.tl.tl.b0.c65
    have s0' := LP.tl.tl.tl.b0.c60
    have s1' := LP.tl.tl.tl.b0.c61
    have s2' := LP.tl.tl.tl.b0.c62
    have s3' := LP.tl.tl.tl.b0.c63
    have s4' := LP.tl.tl.tl.b0.c64
    have s5' := LP.tl.tl.tl.b0.c65
    unfold put6 at t0' t1' t2' t3' t4' t5' u0' u1' u2' u3' u4' u5' v0' v1' v2' v3' v4' v5' s0' s1' s2' s3' s4' s5'
    go_region
    all_goals
      go_wp2_with fail
      have kk0 := LR.b0.c60
      have jj0 := LR.tl.b0.c60
      have kk1 := LR.b0.c61
      have jj1 := LR.tl.b0.c61
      have kk2 := LR.b0.c62
      have jj2 := LR.tl.b0.c62
      have kk3 := LR.b0.c63
      have jj3 := LR.tl.b0.c63
      have kk4 := LR.b0.c64
      have jj4 := LR.tl.b0.c64
      have kk5 := LR.b0.c65
      have jj5 := LR.tl.b0.c65
      unfold put6 at kk0 jj0 kk1 jj1 kk2 jj2 kk3 jj3 kk4 jj4 kk5 jj5
      exact bodyPost_ret (v := .tuple #[.agg #[.bool (ng m), .slice A (zl m) c, .int .i64 e, .bool (ng n), .slice B (zl n) d, .int .i64 f], .agg #[.bool (ng m2), .slice A2 (zl m2) k2, .int .i64 e2, .bool (ng n2), .slice B2 (zl n2) d2, .int .i64 f2], .bool ok2]) (by simp [results, Tryz.results10, go_sem, kk0, jj0, kk1, jj1, kk2, jj2, kk3, jj3, kk4, jj4, kk5, jj5]) rfl ⟨_, _, _, _, _, _, _, _, _, _, _, rfl, isI_n (LR.drew.getN (by simp)) (LR.drew.getN (by simp)), isI_n (LR.drew.getN (by simp)) (LR.drew.getN (by simp)), ⟨by omega, by omega, by omega⟩, ⟨by omega, by omega, by omega⟩, ⟨by omega, by omega, by omega⟩, ⟨by omega, by omega, by omega⟩, fun h => ⟨(dv1 (by first | trivial | rfl)).1, (dv1 (by first | trivial | rfl)).2, (dv2 h).1, (dv2 h).2⟩, le1, le2, LR.drew.below⟩

end Go.Proofs.YtoobcngbnjeddaaGreatDoor


/- What the walks of layer 10's laws lean on. -/
namespace Go.Proofs.YtoobcngbnjeddaaGreatDoor
open Go.RowKit
set_option linter.unusedVariables false
set_option linter.unusedSimpArgs false
set_option maxRecDepth 100000
attribute [local go_sem ↓] Go.wp_at_zero Go.wp_at_succ

theorem dcm_zero (n f : Int) : dcm n f 0 0 = cmpI n 0 := by
  unfold dcm
  have h := cmpI_scale n 0 (pow2_pos (f - min f 0).toNat)
  rw [Int.zero_mul] at h ⊢
  exact h
end Go.Proofs.YtoobcngbnjeddaaGreatDoor

