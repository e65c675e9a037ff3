/- Base texts, joined: IvMath3, ArMath2, RefArA, ArRow, RefArB, RefArC, ArQ, ArSure. -/
import Derived.Test.YthfabjpbdgieoaaGreatDoorBaseV
import Derived.Test.YthfabjpbdgieoaaGreatDoorBaseM
import Derived.Test.YthfabjpbdgieoaaGreatDoorGrPA
import Derived.Test.YthfabjpbdgieoaaGreatDoorRefGrA
import Derived.Test.YthfabjpbdgieoaaGreatDoorBaseE
import Derived.Test.YthfabjpbdgieoaaGreatDoorBaseWZ
import Derived.Test.YthfabjpbdgieoaaGreatDoorRefGrB
import Derived.Deep.RegionHeld3
import Derived.Deep.DrawnRows
import Derived.Test.YthfabjpbdgieoaaGreatDoorBaseD
import Derived.Test.YthfabjpbdgieoaaGreatDoorBaseF
import Derived.Deep.Cut
import Derived.Deep.CutRange
/- Middles, widths and outward rounding, as fractions. -/
namespace Go.Proofs.YthfabjpbdgieoaaGreatDoor
open Go.RowKit
set_option linter.unusedVariables false
set_option linter.unusedSimpArgs false
set_option maxRecDepth 100000
attribute [local go_sem ↓] Go.wp_at_zero Go.wp_at_succ

theorem mk_fits2 {m e : Int} (h : zl m ≤ 1900) (h1 : -60000 ≤ e) (h2 : e ≤ 4000) : mkR m e = 0 := by
  unfold mkR
  rw [if_neg (by omega)]
  by_cases h0 : m = 0
  · rw [if_pos h0]
  · rw [if_neg h0]
    have ht := tz_le8 m.natAbs (by omega)
    have e1 : zl m = len m.natAbs := rfl
    have hb : blen (oddM m).natAbs ≤ 65536 := by
      have := blen_le_len (oddM m).natAbs
      have h3 := zl_odd m
      have e2 : zl (oddM m) = len (oddM m).natAbs := rfl
      omega
    have ho : bitB (oddM m).natAbs 0 = true := by
      obtain ⟨k, hk⟩ := tz_form (x := m.natAbs) (by omega)
      have hd : m.natAbs / 2 ^ tz m.natAbs = 2 * k + 1 := by
        have := Nat.mul_div_cancel_left (2 * k + 1) (Nat.pow_pos (n := tz m.natAbs) (show 0 < 2 by omega))
        rwa [← hk] at this
      unfold bitB
      rw [oddM_abs, hd, Nat.pow_zero, Nat.div_one]
      exact decide_eq_true (by omega)
    have hf : fits8 (oddM m) (oddE m e) = true := by
      unfold fits8 oddE
      rw [decide_eq_true hb, decide_eq_true (by omega), decide_eq_true (by omega), ho]
      rfl
    rw [hf]
    rfl
end Go.Proofs.YthfabjpbdgieoaaGreatDoor


/- Enclosures: the floor of the lower end and the ceiling of the upper one. -/
namespace Go.Proofs.YthfabjpbdgieoaaGreatDoor
open Go.RowKit
set_option linter.unusedVariables false
set_option linter.unusedSimpArgs false
set_option maxRecDepth 100000
attribute [local go_sem ↓] Go.wp_at_zero Go.wp_at_succ

/-- The floor of a fraction on the grid of k, as Make returns it; the ceiling. -/
def enM (q : Rat) (k : Int) : Int := mkM (cutQ q k) (-k)
def enE (q : Rat) (k : Int) : Int := mkE (cutQ q k) (-k)
def upM (q : Rat) (k : Int) : Int := mkM (-(cutQ (-q) k)) (-k)
def upE (q : Rat) (k : Int) : Int := mkE (-(cutQ (-q) k)) (-k)
def enF (q : Rat) (k : Int) : Prop := mkR (cutQ q k) (-k) = 0
def upF (q : Rat) (k : Int) : Prop := mkR (-(cutQ (-q) k)) (-k) = 0
theorem en_lo {q : Rat} {k : Int} (h : enF q k) : dq (enM q k) (enE q k) ≤ q := by
  unfold enM enE
  rw [dq_mk h]
  exact cut_lo q k
theorem up_hi {q : Rat} {k : Int} (h : upF q k) : q ≤ dq (upM q k) (upE q k) := by
  unfold upM upE
  rw [dq_mk h, dq_neg, Rat.le_neg_iff]
  exact cut_lo (-q) k
theorem cut_mono {q q' : Rat} {k k' : Int} (hk : k ≤ k') (hq : q ≤ q') : dq (cutQ q k) (-k) ≤ dq (cutQ q' k') (-k') := by
  have e1 : dq (cutQ q k) (-k) = dq (cutQ q k * 2 ^ (k' - k).toNat) (-k') := dq_eq (F := -k') (by rw [show -k' - -k' = 0 by omega, show -k - -k' = k' - k by omega]; simp) (by omega) (by omega)
  have h1 := Rat.le_trans (cut_lo q k) hq
  rw [e1] at h1 ⊢
  have h2 := rlt_le h1 (cut_hi q' k')
  rw [← dq_succ, dq_scale, dq_scale (cutQ q' k' + 1)] at h2
  have h3 := Rat.intCast_lt_intCast.1 (Rat.lt_of_mul_lt_mul_right h2 (Rat.le_of_lt (dq_pos (-k'))))
  rw [dq_le_iff]
  omega
theorem en_mono {q q' : Rat} {k k' : Int} (hk : k ≤ k') (hq : q ≤ q') (h : enF q k) (h' : enF q' k') : dq (enM q k) (enE q k) ≤ dq (enM q' k') (enE q' k') := by
  unfold enM enE
  rw [dq_mk h, dq_mk h']
  exact cut_mono hk hq
theorem up_mono {q q' : Rat} {k k' : Int} (hk : k ≤ k') (hq : q' ≤ q) (h : upF q k) (h' : upF q' k') : dq (upM q' k') (upE q' k') ≤ dq (upM q k) (upE q k) := by
  unfold upM upE
  rw [dq_mk h, dq_mk h', dq_neg, dq_neg]
  exact Rat.neg_le_neg (cut_mono hk (Rat.neg_le_neg hq))
theorem blen_odd {m : Int} (h : m ≠ 0) : blen m.natAbs = blen (oddM m).natAbs + tz m.natAbs := by
  have h1 := odd_form m
  have h2 : m.natAbs = 0 + 2 ^ tz m.natAbs * (oddM m).natAbs := by
    have := congrArg Int.natAbs h1
    rw [abs_shl] at this
    rw [Nat.zero_add, Nat.mul_comm]
    exact this.symm
  have h3 := blen_high (lo := 0) (top := (oddM m).natAbs) (k := tz m.natAbs) (Nat.pow_pos (by omega)) (oddM_pos h)
  rw [← h2] at h3
  omega
theorem top_mk {m e : Int} (h : mkR m e = 0) (hm : m ≠ 0) : topZ (mkM m e) (mkE m e) = (blen m.natAbs : Int) + e := by
  have h1 : mkM m e = oddM m := by unfold mkM; rw [if_pos h]
  have h2 : mkE m e = oddE m e := by unfold mkE; rw [if_neg hm, if_pos h]
  have h3 := oddM_pos hm
  rw [h1, h2]
  unfold topZ oddE
  rw [if_neg (by omega), blen_odd hm]
  omega
/-- The enclosure of a fraction that is short enough is small. -/
theorem mk_small {C : Int} {k : Int} {z : Nat} (hz : zl C ≤ z + (k.toNat / 32 + 1)) (h60 : z ≤ 60) (hk : 0 ≤ k ∧ k ≤ 4096) : mkR C (-k) = 0 ∧ topZ (mkM C (-k)) (mkE C (-k)) ≤ 2048 ∧ onB (mkM C (-k)) (mkE C (-k)) 8192 = true := by
  have hr : mkR C (-k) = 0 := mk_fits2 (by omega) (by omega) (by omega)
  refine ⟨hr, ?_, ?_⟩
  · by_cases h0 : C = 0
    · subst h0
      have h1 : mkM 0 (-k) = 0 := by unfold mkM; rw [if_pos hr, oddM_zero]
      rw [h1]
      unfold topZ
      rw [if_pos rfl]
      omega
    · rw [top_mk hr h0]
      have h1 := blen_le_len C.natAbs
      have e1 : zl C = len C.natAbs := rfl
      omega
  · unfold onB
    rw [show permB 8192 = true from by decide, Bool.true_and]
    by_cases h0 : C = 0
    · have h1 : mkM C (-k) = 0 := by subst h0; unfold mkM; rw [if_pos hr, oddM_zero]
      rw [h1, decide_eq_true rfl, Bool.true_or]
    · have h2 : mkE C (-k) = oddE C (-k) := by unfold mkE; rw [if_neg h0, if_pos hr]
      rw [h2]
      unfold oddE
      rw [decide_eq_true (show -8192 ≤ -k + (tz C.natAbs : Int) by omega), Bool.or_true]


end Go.Proofs.YthfabjpbdgieoaaGreatDoor


/- The reference's Work, Small, ends. -/
namespace Go.Proofs.YthfabjpbdgieoaaGreatDoor
open Go.RowKit
set_option linter.unusedVariables false
set_option linter.unusedSimpArgs false
set_option maxRecDepth 100000
attribute [local go_sem ↓] Go.wp_at_zero Go.wp_at_succ

/-- Which working precisions are permitted; which intervals of valid ends are small. -/
def workB (k : Int) : Bool := decide (0 ≤ k) && decide (k ≤ 4096)
def smallB (m e n f : Int) : Bool := decide (dcm m e n f ≤ 0) && (decide (topZ m e ≤ 2048) && (decide (topZ n f ≤ 2048) && (onB m e 8192 && onB n f 8192)))

set_option maxHeartbeats 1000000 in
theorem rwork_any (p : Int) (w : World) :
    Calls Tryz.prog 45 #[.int .i64 p] w (fun e w' => e = .returned (.bool (workB p)) ∧ w = w') := by
  unfold workB
  by_cases q1 : 0 ≤ p
  · have b1 : decide (0 ≤ p) = true := decide_eq_true q1
    rw [b1, Bool.true_and]
    go_enter Tryz.func45, Tryz.ntmps45
    go_wp2_with fail
    go_ret
    exact ⟨rfl, rfl⟩
  · have b1 : decide (0 ≤ p) = false := decide_eq_false q1
    rw [b1, Bool.false_and]
    go_enter Tryz.func45, Tryz.ntmps45
    go_wp2_with fail
    go_ret
    exact ⟨rfl, rfl⟩
set_option maxHeartbeats 8000000 in
theorem rsmall11_any (m e n f : Int) (vx : Value) (w : World) (hx : IsI w vx m e n f) (lm : zl m ≤ 1000) (ln : zl n ≤ 1000) (he : -70000 ≤ e ∧ e ≤ 70000) (hf : -70000 ≤ f ∧ f ≤ 70000) (hv : Dv m e) (hv2 : Dv n f) :
    Calls Tryz.prog 46 #[vx] w (RetB w (smallB m e n f)) := by
  obtain ⟨A, c, B, d, rfl, hn1, hn2⟩ := hx.form
  have L0 := ((Lq.mk0 w).n hn2).n hn1
  have h0 := fun v W h => r10valid_any m e n f v W h lm ln he hf hv hv2
  have h1 := fun v W h => rtop_any m e v W h (by omega) (by omega)
  have h2 := fun v W h => rtop_any n f v W h (by omega) (by omega)
  have h3 := fun v W h => ron9_any m e 8192 v W h (by omega) (by omega)
  have h4 := fun v W h => ron9_any n f 8192 v W h (by omega) (by omega)
  unfold smallB
  obtain ⟨b0, hb0⟩ : ∃ b, decide (dcm m e n f ≤ 0) = b := ⟨_, rfl⟩
  obtain ⟨x1, hx1⟩ : ∃ x, topZ m e = x := ⟨_, rfl⟩
  obtain ⟨x2, hx2⟩ : ∃ x, topZ n f = x := ⟨_, rfl⟩
  obtain ⟨b3, hb3⟩ : ∃ b, onB m e 8192 = b := ⟨_, rfl⟩
  obtain ⟨b4, hb4⟩ : ∃ b, onB n f 8192 = b := ⟨_, rfl⟩
  rw [hb0] at h0 ⊢
  rw [hx1] at h1 ⊢
  rw [hx2] at h2 ⊢
  rw [hb3] at h3 ⊢
  rw [hb4] at h4 ⊢
  have H0 := Lib.hid h0
  have H1 := Lib.hid h1
  have H2 := Lib.hid h2
  have H3 := Lib.hid h3
  have H4 := Lib.hid h4
  have hxx := Lib.hid hx
  clear h0 h1 h2 h3 h4 hb0 hx1 hx2 hb3 hb4 hx hn1 hn2 lm ln he hf hv hv2
  clear hxx
  cases b0
  · rw [Bool.false_and]
    go_enter Tryz.func46, Tryz.ntmps46
    go_wp2_with fail
    have L := (L0.varI (w.heap.size) (by simp) (ng m) A (zl m) c e (ng n) B (zl n) d f)
    have c00 := L.b0.c60
    have c01 := L.b0.c61
    have c02 := L.b0.c62
    have c03 := L.b0.c63
    have c04 := L.b0.c64
    have c05 := L.b0.c65
    (try go_wp2_with fail)
    refine (H0.out _ _ (isI_n (m := m) (e := e) (n := n) (f := f) (L.getN (v := .slice A (zl m) c) (x := (m).natAbs) (by simp)) (L.getN (v := .slice B (zl n) d) (x := (n).natAbs) (by simp)))).mono ?_
    rintro e w1 ⟨rfl, be⟩
    clear c00 c01 c02 c03 c04 c05
    replace L := L.step be
    clear be
    have c00 := L.b0.c60
    have c01 := L.b0.c61
    have c02 := L.b0.c62
    have c03 := L.b0.c63
    have c04 := L.b0.c64
    have c05 := L.b0.c65
    (try go_wp2_with fail)
    go_ret
    exact ⟨rfl, L.below⟩
  · rw [Bool.true_and]
    by_cases q1 : x1 ≤ 2048
    · have t1 : decide (x1 ≤ 2048) = true := decide_eq_true q1
      rw [t1, Bool.true_and]
      clear q1
      by_cases q2 : x2 ≤ 2048
      · have t2 : decide (x2 ≤ 2048) = true := decide_eq_true q2
        rw [t2, Bool.true_and]
        clear q2
        cases b3
        · rw [Bool.false_and]
          go_enter Tryz.func46, Tryz.ntmps46
          go_wp2_with fail
          have L := (L0.varI (w.heap.size) (by simp) (ng m) A (zl m) c e (ng n) B (zl n) d f)
          have c00 := L.b0.c60
          have c01 := L.b0.c61
          have c02 := L.b0.c62
          have c03 := L.b0.c63
          have c04 := L.b0.c64
          have c05 := L.b0.c65
          (try go_wp2_with fail)
          refine (H0.out _ _ (isI_n (m := m) (e := e) (n := n) (f := f) (L.getN (v := .slice A (zl m) c) (x := (m).natAbs) (by simp)) (L.getN (v := .slice B (zl n) d) (x := (n).natAbs) (by simp)))).mono ?_
          rintro e w1 ⟨rfl, be⟩
          clear c00 c01 c02 c03 c04 c05
          replace L := L.step be
          clear be
          have c00 := L.b0.c60
          have c01 := L.b0.c61
          have c02 := L.b0.c62
          have c03 := L.b0.c63
          have c04 := L.b0.c64
          have c05 := L.b0.c65
          (try go_wp2_with fail)
          refine (H1.out _ _ (isD_n (m := m) (e := e) (s := .slice A (zl m) c) (L.getN (v := .slice A (zl m) c) (x := (m).natAbs) (by simp)))).mono ?_
          rintro e w2 ⟨rfl, be⟩
          clear c00 c01 c02 c03 c04 c05
          replace L := L.step be
          clear be
          have c00 := L.b0.c60
          have c01 := L.b0.c61
          have c02 := L.b0.c62
          have c03 := L.b0.c63
          have c04 := L.b0.c64
          have c05 := L.b0.c65
          (try go_wp2_with fail)
          refine (H2.out _ _ (isD_n (m := n) (e := f) (s := .slice B (zl n) d) (L.getN (v := .slice B (zl n) d) (x := (n).natAbs) (by simp)))).mono ?_
          rintro e w3 ⟨rfl, be⟩
          clear c00 c01 c02 c03 c04 c05
          replace L := L.step be
          clear be
          have c00 := L.b0.c60
          have c01 := L.b0.c61
          have c02 := L.b0.c62
          have c03 := L.b0.c63
          have c04 := L.b0.c64
          have c05 := L.b0.c65
          (try go_wp2_with fail)
          refine (H3.out _ _ (isD_n (m := m) (e := e) (s := .slice A (zl m) c) (L.getN (v := .slice A (zl m) c) (x := (m).natAbs) (by simp)))).mono ?_
          rintro e w4 ⟨rfl, be⟩
          clear c00 c01 c02 c03 c04 c05
          replace L := L.step be
          clear be
          have c00 := L.b0.c60
          have c01 := L.b0.c61
          have c02 := L.b0.c62
          have c03 := L.b0.c63
          have c04 := L.b0.c64
          have c05 := L.b0.c65
          (try go_wp2_with fail)
          go_ret
          exact ⟨rfl, L.below⟩
        · rw [Bool.true_and]
          go_enter Tryz.func46, Tryz.ntmps46
          go_wp2_with fail
          have L := (L0.varI (w.heap.size) (by simp) (ng m) A (zl m) c e (ng n) B (zl n) d f)
          have c00 := L.b0.c60
          have c01 := L.b0.c61
          have c02 := L.b0.c62
          have c03 := L.b0.c63
          have c04 := L.b0.c64
          have c05 := L.b0.c65
          (try go_wp2_with fail)
          refine (H0.out _ _ (isI_n (m := m) (e := e) (n := n) (f := f) (L.getN (v := .slice A (zl m) c) (x := (m).natAbs) (by simp)) (L.getN (v := .slice B (zl n) d) (x := (n).natAbs) (by simp)))).mono ?_
          rintro e w1 ⟨rfl, be⟩
          clear c00 c01 c02 c03 c04 c05
          replace L := L.step be
          clear be
          have c00 := L.b0.c60
          have c01 := L.b0.c61
          have c02 := L.b0.c62
          have c03 := L.b0.c63
          have c04 := L.b0.c64
          have c05 := L.b0.c65
          (try go_wp2_with fail)
          refine (H1.out _ _ (isD_n (m := m) (e := e) (s := .slice A (zl m) c) (L.getN (v := .slice A (zl m) c) (x := (m).natAbs) (by simp)))).mono ?_
          rintro e w2 ⟨rfl, be⟩
          clear c00 c01 c02 c03 c04 c05
          replace L := L.step be
          clear be
          have c00 := L.b0.c60
          have c01 := L.b0.c61
          have c02 := L.b0.c62
          have c03 := L.b0.c63
          have c04 := L.b0.c64
          have c05 := L.b0.c65
          (try go_wp2_with fail)
          refine (H2.out _ _ (isD_n (m := n) (e := f) (s := .slice B (zl n) d) (L.getN (v := .slice B (zl n) d) (x := (n).natAbs) (by simp)))).mono ?_
          rintro e w3 ⟨rfl, be⟩
          clear c00 c01 c02 c03 c04 c05
          replace L := L.step be
          clear be
          have c00 := L.b0.c60
          have c01 := L.b0.c61
          have c02 := L.b0.c62
          have c03 := L.b0.c63
          have c04 := L.b0.c64
          have c05 := L.b0.c65
          (try go_wp2_with fail)
          refine (H3.out _ _ (isD_n (m := m) (e := e) (s := .slice A (zl m) c) (L.getN (v := .slice A (zl m) c) (x := (m).natAbs) (by simp)))).mono ?_
          rintro e w4 ⟨rfl, be⟩
          clear c00 c01 c02 c03 c04 c05
          replace L := L.step be
          clear be
          have c00 := L.b0.c60
          have c01 := L.b0.c61
          have c02 := L.b0.c62
          have c03 := L.b0.c63
          have c04 := L.b0.c64
          have c05 := L.b0.c65
          (try go_wp2_with fail)
          refine (H4.out _ _ (isD_n (m := n) (e := f) (s := .slice B (zl n) d) (L.getN (v := .slice B (zl n) d) (x := (n).natAbs) (by simp)))).mono ?_
          rintro e w5 ⟨rfl, be⟩
          clear c00 c01 c02 c03 c04 c05
          replace L := L.step be
          clear be
          have c00 := L.b0.c60
          have c01 := L.b0.c61
          have c02 := L.b0.c62
          have c03 := L.b0.c63
          have c04 := L.b0.c64
          have c05 := L.b0.c65
          (try go_wp2_with fail)
          go_ret
          exact ⟨rfl, L.below⟩
      · have t2 : decide (x2 ≤ 2048) = false := decide_eq_false q2
        rw [t2, Bool.false_and]
        clear q2
        go_enter Tryz.func46, Tryz.ntmps46
        go_wp2_with fail
        have L := (L0.varI (w.heap.size) (by simp) (ng m) A (zl m) c e (ng n) B (zl n) d f)
        have c00 := L.b0.c60
        have c01 := L.b0.c61
        have c02 := L.b0.c62
        have c03 := L.b0.c63
        have c04 := L.b0.c64
        have c05 := L.b0.c65
        (try go_wp2_with fail)
        refine (H0.out _ _ (isI_n (m := m) (e := e) (n := n) (f := f) (L.getN (v := .slice A (zl m) c) (x := (m).natAbs) (by simp)) (L.getN (v := .slice B (zl n) d) (x := (n).natAbs) (by simp)))).mono ?_
        rintro e w1 ⟨rfl, be⟩
        clear c00 c01 c02 c03 c04 c05
        replace L := L.step be
        clear be
        have c00 := L.b0.c60
        have c01 := L.b0.c61
        have c02 := L.b0.c62
        have c03 := L.b0.c63
        have c04 := L.b0.c64
        have c05 := L.b0.c65
        (try go_wp2_with fail)
        refine (H1.out _ _ (isD_n (m := m) (e := e) (s := .slice A (zl m) c) (L.getN (v := .slice A (zl m) c) (x := (m).natAbs) (by simp)))).mono ?_
        rintro e w2 ⟨rfl, be⟩
        clear c00 c01 c02 c03 c04 c05
        replace L := L.step be
        clear be
        have c00 := L.b0.c60
        have c01 := L.b0.c61
        have c02 := L.b0.c62
        have c03 := L.b0.c63
        have c04 := L.b0.c64
        have c05 := L.b0.c65
        (try go_wp2_with fail)
        refine (H2.out _ _ (isD_n (m := n) (e := f) (s := .slice B (zl n) d) (L.getN (v := .slice B (zl n) d) (x := (n).natAbs) (by simp)))).mono ?_
        rintro e w3 ⟨rfl, be⟩
        clear c00 c01 c02 c03 c04 c05
        replace L := L.step be
        clear be
        have c00 := L.b0.c60
        have c01 := L.b0.c61
        have c02 := L.b0.c62
        have c03 := L.b0.c63
        have c04 := L.b0.c64
        have c05 := L.b0.c65
        (try go_wp2_with fail)
        go_ret
        exact ⟨rfl, L.below⟩
    · have t1 : decide (x1 ≤ 2048) = false := decide_eq_false q1
      rw [t1, Bool.false_and]
      clear q1
      go_enter Tryz.func46, Tryz.ntmps46
      go_wp2_with fail
      have L := (L0.varI (w.heap.size) (by simp) (ng m) A (zl m) c e (ng n) B (zl n) d f)
      have c00 := L.b0.c60
      have c01 := L.b0.c61
      have c02 := L.b0.c62
      have c03 := L.b0.c63
      have c04 := L.b0.c64
      have c05 := L.b0.c65
      (try go_wp2_with fail)
      refine (H0.out _ _ (isI_n (m := m) (e := e) (n := n) (f := f) (L.getN (v := .slice A (zl m) c) (x := (m).natAbs) (by simp)) (L.getN (v := .slice B (zl n) d) (x := (n).natAbs) (by simp)))).mono ?_
      rintro e w1 ⟨rfl, be⟩
      clear c00 c01 c02 c03 c04 c05
      replace L := L.step be
      clear be
      have c00 := L.b0.c60
      have c01 := L.b0.c61
      have c02 := L.b0.c62
      have c03 := L.b0.c63
      have c04 := L.b0.c64
      have c05 := L.b0.c65
      (try go_wp2_with fail)
      refine (H1.out _ _ (isD_n (m := m) (e := e) (s := .slice A (zl m) c) (L.getN (v := .slice A (zl m) c) (x := (m).natAbs) (by simp)))).mono ?_
      rintro e w2 ⟨rfl, be⟩
      clear c00 c01 c02 c03 c04 c05
      replace L := L.step be
      clear be
      have c00 := L.b0.c60
      have c01 := L.b0.c61
      have c02 := L.b0.c62
      have c03 := L.b0.c63
      have c04 := L.b0.c64
      have c05 := L.b0.c65
      (try go_wp2_with fail)
      go_ret
      exact ⟨rfl, L.below⟩
end Go.Proofs.YthfabjpbdgieoaaGreatDoor


/- Rows of fractions; two new variables with fractions, and where they lie. -/
namespace Go.Proofs.YthfabjpbdgieoaaGreatDoor
open Go.RowKit
set_option linter.unusedVariables false
set_option linter.unusedSimpArgs false
set_option maxRecDepth 100000
attribute [local go_sem ↓] Go.wp_at_zero Go.wp_at_succ

/-- A slice of fractions: what its elements stand for. -/
def RowR (w : World) (v : Value) (l : List (Int × Nat)) : Prop := ∃ g c, v = .slice (some ⟨g, 0, none⟩) l.length c ∧ g < w.heap.size ∧ ∀ (j : Nat) (p : Int × Nat), l[j]? = some p → ∃ A c B k, w.cell? ⟨g, 3 * j, none⟩ = some (.bool (ng p.1)) ∧ w.cell? ⟨g, 3 * j + 1, none⟩ = some (.slice A (zl p.1) c) ∧ w.cell? ⟨g, 3 * j + 2, none⟩ = some (.slice B (len p.2) k) ∧ IsP w (.agg #[.bool (ng p.1), .slice A (zl p.1) c, .slice B (len p.2) k]) p.1 p.2
theorem RowR.mono {w w' : World} {v : Value} {l : List (Int × Nat)} (h : RowR w v l) (hb : Below w.heap.size w w') : RowR w' v l := by
  obtain ⟨g, c, r, hg, h⟩ := h
  refine ⟨g, c, r, Nat.lt_of_lt_of_le hg hb.size, fun j p hp => ?_⟩
  obtain ⟨A, c, B, k, h1, h2, h3, h4⟩ := h j p hp
  exact ⟨A, c, B, k, (hb.cell (p := ⟨g, 3 * j, none⟩) hg).trans h1, (hb.cell (p := ⟨g, 3 * j + 1, none⟩) hg).trans h2, (hb.cell (p := ⟨g, 3 * j + 2, none⟩) hg).trans h3, h4.mono hb⟩
def qOf (p : Int × Nat) : Rat := Rat.divInt p.1 (p.2 : Int)
/-- Two new variables, each with its fraction, and where they lie. -/
def Made2R (w0 : World) (a1 : Int) (d1 : Nat) (a2 : Int) (d2 : Nat) (s1 s2 : Value) (w' : World) : Prop := ∃ g1 g2 A1 B1 c1 k1 A2 B2 c2 k2, s1 = (.pointer (some ⟨g1, 0, none⟩)) ∧ s2 = (.pointer (some ⟨g2, 0, none⟩)) ∧ w0.heap.size ≤ g1 ∧ w0.heap.size ≤ g2 ∧ g1 ≠ g2 ∧ Below w0.heap.size w0 w' ∧ Var w' g1 57 #[.bool (ng a1), .slice A1 (zl a1) c1, .slice B1 (len d1) k1] ∧ Var w' g2 57 #[.bool (ng a2), .slice A2 (zl a2) c2, .slice B2 (len d2) k2] ∧ IsP w' (.agg #[.bool (ng a1), .slice A1 (zl a1) c1, .slice B1 (len d1) k1]) a1 d1 ∧ IsP w' (.agg #[.bool (ng a2), .slice A2 (zl a2) c2, .slice B2 (len d2) k2]) a2 d2
section
variable {w0 w : World} {ns : List (Value × Nat)} {zs : List (Value × Int)} {qs : List (Value × Int × Nat)} {a1 a2 : Int} {d1 d2 : Nat} {A1 A2 B1 B2 : Option Addr} {c1 c2 k1 k2 : Nat}
theorem made2r_of {w' : World} {g1 g2 : Nat} (D : Dq w0 w' ns zs qs [(g1, 57, #[.bool (ng a1), .slice A1 (zl a1) c1, .slice B1 (len d1) k1]), (g2, 57, #[.bool (ng a2), .slice A2 (zl a2) c2, .slice B2 (len d2) k2])]) (h1 : (.agg #[.bool (ng a1), .slice A1 (zl a1) c1, .slice B1 (len d1) k1], a1, d1) ∈ qs) (h2 : (.agg #[.bool (ng a2), .slice A2 (zl a2) c2, .slice B2 (len d2) k2], a2, d2) ∈ qs) : Made2R w0 a1 d1 a2 d2 (.pointer (some ⟨g1, 0, none⟩)) (.pointer (some ⟨g2, 0, none⟩)) w' :=
  ⟨g1, g2, A1, B1, c1, k1, A2, B2, c2, k2, rfl, rfl, D.ge _ (List.mem_cons_self ..), D.swap.ge _ (List.mem_cons_self ..), D.n01.1, D.lq.below, D.lq.b0, D.lq.tl.b0, D.getQ h1, D.getQ h2⟩
end
/-- What Enclose returns of the least and the greatest of some fractions. -/
def enB (lo hi : Rat) (k : Int) : Bool := smallB (enM lo k) (enE lo k) (upM hi k) (upE hi k)
def RetEn (w : World) (lo hi : Rat) (k : Int) : Ending → World → Prop := if workB k then (if mkR (cutQ lo k) (-k) = 0 ∧ mkR (-(cutQ (-hi) k)) (-k) = 0 ∧ enB lo hi k = true then RetIE w (enM lo k) (enE lo k) (upM hi k) (upE hi k) 0 else RetIE w 0 0 0 0 3) else RetIE w 0 0 0 0 1
def IsLeast (x : Rat) (l : List (Int × Nat)) : Prop := (∃ p ∈ l, qOf p = x) ∧ ∀ p ∈ l, x ≤ qOf p
def IsMost (x : Rat) (l : List (Int × Nat)) : Prop := (∃ p ∈ l, qOf p = x) ∧ ∀ p ∈ l, qOf p ≤ x
theorem cmpI_ltq {a b : Int} {d e : Nat} (hd : 0 < d) (he : 0 < e) : cmpI (a * (e : Int)) (b * (d : Int)) < 0 ↔ Rat.divInt a (d : Int) < Rat.divInt b (e : Int) := by
  rw [← Rat.not_le, divInt_le (by omega) (by omega)]
  unfold cmpI
  generalize a * (e : Int) = x
  generalize b * (d : Int) = y
  (repeat' split) <;> omega
theorem cmpI_gtq {a b : Int} {d e : Nat} (hd : 0 < d) (he : 0 < e) : 0 < cmpI (a * (e : Int)) (b * (d : Int)) ↔ Rat.divInt b (e : Int) < Rat.divInt a (d : Int) := by
  rw [← Rat.not_le, divInt_le (by omega) (by omega)]
  unfold cmpI
  generalize a * (e : Int) = x
  generalize b * (d : Int) = y
  (repeat' split) <;> omega


end Go.Proofs.YthfabjpbdgieoaaGreatDoor


/- The reference's Enclose: over any row of fractions. -/
namespace Go.Proofs.YthfabjpbdgieoaaGreatDoor
open Go.RowKit
set_option linter.unusedVariables false
set_option linter.unusedSimpArgs false
set_option maxRecDepth 100000
attribute [local go_sem ↓] Go.wp_at_zero Go.wp_at_succ

theorem least_eq {x : Rat} {l : List (Int × Nat)} {p : Int × Nat} (h : IsLeast x l) (hp : p ∈ l) (h2 : ∀ q ∈ l, qOf p ≤ qOf q) : qOf p = x := by
  obtain ⟨⟨q, hq, e⟩, h1⟩ := h
  exact Rat.le_antisymm (by rw [← e]; exact h2 q hq) (h1 p hp)
theorem most_eq {x : Rat} {l : List (Int × Nat)} {p : Int × Nat} (h : IsMost x l) (hp : p ∈ l) (h2 : ∀ q ∈ l, qOf q ≤ qOf p) : qOf p = x := by
  obtain ⟨⟨q, hq, e⟩, h1⟩ := h
  exact Rat.le_antisymm (h1 p hp) (by rw [← e]; exact h2 q hq)
def LoopF (l : List (Int × Nat)) (t : Nat) (a1 : Int) (d1 : Nat) (a2 : Int) (d2 : Nat) : Prop := (a1, d1) ∈ l ∧ (a2, d2) ∈ l ∧ ∀ (j : Nat) (p : Int × Nat), j < t → l[j]? = some p → qOf (a1, d1) ≤ qOf p ∧ qOf p ≤ qOf (a2, d2)
theorem LoopF.step {l : List (Int × Nat)} {t : Nat} {a1 a2 a b1 b2 : Int} {d1 d2 d e1 e2 : Nat} (h : LoopF l t a1 d1 a2 d2) (hp : l[t]? = some (a, d)) (m1 : (b1, e1) ∈ l) (m2 : (b2, e2) ∈ l) (x1 : qOf (b1, e1) ≤ qOf (a1, d1)) (x2 : qOf (b1, e1) ≤ qOf (a, d)) (y1 : qOf (a2, d2) ≤ qOf (b2, e2)) (y2 : qOf (a, d) ≤ qOf (b2, e2)) : LoopF l (t + 1) b1 e1 b2 e2 := by
  refine ⟨m1, m2, fun j p hj hjp => ?_⟩
  rcases Nat.lt_or_ge j t with h1 | h1
  · have := h.2.2 j p h1 hjp
    exact ⟨Rat.le_trans x1 this.1, Rat.le_trans this.2 y1⟩
  · obtain rfl : j = t := by omega
    rw [hp] at hjp
    obtain rfl := Option.some.inj hjp
    exact ⟨x2, y2⟩
theorem LoopF.all {l : List (Int × Nat)} {a1 a2 : Int} {d1 d2 : Nat} {n : Nat} (hn : l.length = n) (h : LoopF l n a1 d1 a2 d2) : (∀ q ∈ l, qOf (a1, d1) ≤ qOf q) ∧ ∀ q ∈ l, qOf q ≤ qOf (a2, d2) := by
  constructor <;> intro q hq <;> obtain ⟨j, hj, e⟩ := List.getElem_of_mem hq
  · exact (h.2.2 j q (by omega) (by rw [← e]; exact List.getElem?_eq_getElem hj)).1
  · exact (h.2.2 j q (by omega) (by rw [← e]; exact List.getElem?_eq_getElem hj)).2
theorem Lq.two {w0 w : World} {ns : List (Value × Nat)} {zs : List (Value × Int)} {qs : List (Value × Int × Nat)} {bs : List (Nat × TypeId × Array Value)} (h : Lq w0 w ns zs qs bs) {p q : Value × Int × Nat} {b c : Nat × TypeId × Array Value} (hp : p ∈ qs) (hq : q ∈ qs) (hb : b ∈ bs) (hc : c ∈ bs) : Lq w0 w [] [] [p, q] [b, c] :=
  ⟨h.below, fun _ x => (by cases x), fun _ x => (by cases x), fun x hx => h.qs x (by simp only [List.mem_cons, List.not_mem_nil, or_false] at hx; rcases hx with rfl | rfl <;> assumption), fun x hx => h.bs x (by simp only [List.mem_cons, List.not_mem_nil, or_false] at hx; rcases hx with rfl | rfl <;> assumption)⟩
theorem Lq.pick {w0 w : World} {ns : List (Value × Nat)} {zs : List (Value × Int)} {qs : List (Value × Int × Nat)} {bs : List (Nat × TypeId × Array Value)} (h : Lq w0 w ns zs qs bs) (l : List (Nat × TypeId × Array Value)) (hl : ∀ x ∈ l, x ∈ bs) : Lq w0 w ns zs qs l := ⟨h.below, h.ns, h.zs, h.qs, fun x hx => h.bs x (hl x hx)⟩
theorem work_perm {k : Int} (h : workB k = true) : permB k = true ∧ 0 ≤ k ∧ k ≤ 4096 := by
  unfold workB at h
  rw [Bool.and_eq_true, decide_eq_true_iff, decide_eq_true_iff] at h
  unfold permB
  rw [decide_eq_true (show -2048 ≤ k by omega), decide_eq_true (show k ≤ 8192 by omega)]
  exact ⟨rfl, h⟩

set_option maxHeartbeats 16000000 in
theorem rencl_any (l : List (Int × Nat)) (lo hi : Rat) (k : Int) (vl : Value) (w : World) (hl : RowR w vl l) (h0 : 0 < l.length) (hsz : l.length ≤ 1000) (hb : ∀ p ∈ l, zl p.1 ≤ 800 ∧ len p.2 ≤ 800 ∧ 0 < p.2) (hlo : IsLeast lo l) (hhi : IsMost hi l) (hk1 : -9223372036854775808 ≤ k) (hk2 : k ≤ 9223372036854775807) :
    Calls Tryz.prog 67 #[vl, .int .i64 k] w (RetEn w lo hi k) := by
  obtain ⟨g, c, rfl, hg, hrow⟩ := hl
  have HW0 := fun W => rwork_any k W
  have HB := Lib.hid hb
  have HLO := Lib.hid hlo
  have HHI := Lib.hid hhi
  clear hb hlo hhi
  cases hw : workB k
  · rw [hw] at HW0
    have HW := Lib.hid HW0
    have HWK := Lib.hid hw
    clear HW0 hrow hw
    go_enter Tryz.func67, Tryz.ntmps67
    go_wp2_with fail
    have L := ((Lq.mk0 w).varI (w.heap.size) (by simp) false none 0 0 0 false none 0 0 0)
    have c00 := L.b0.c60
    have f00 := L.b0.fr 0
    have c01 := L.b0.c61
    have f01 := L.b0.fr 1
    have c02 := L.b0.c62
    have f02 := L.b0.fr 2
    have c03 := L.b0.c63
    have f03 := L.b0.fr 3
    have c04 := L.b0.c64
    have f04 := L.b0.fr 4
    have c05 := L.b0.c65
    have f05 := L.b0.fr 5
    (try go_wp2_with fail)
    refine (HW.out _).mono ?_
    rintro e9 w' ⟨rfl, rfl⟩
    (try go_wp2_with fail)
    exact bodyPost_ret (v := .tuple #[.agg #[.bool false, .slice none 0 0, .int .i64 0, .bool false, .slice none 0 0, .int .i64 0], .int .i64 1]) (by simp [results, Tryz.results67, go_sem, c00, c01, c02, c03, c04, c05]) rfl (by unfold RetEn; rw [if_neg (by rw [HWK.out]; decide)]; exact ⟨_, rfl, isI_zero _, L.below⟩)
  · rw [hw] at HW0
    have HW := Lib.hid HW0
    obtain ⟨⟨a0, d0⟩, hp0⟩ : ∃ p, l[0]? = some p := ⟨l[0], List.getElem?_eq_getElem h0⟩
    obtain ⟨A0, c0, B0, k0, r0, r1, r2, r3⟩ := hrow 0 _ hp0
    have HM0 := Lib.hid (List.mem_of_getElem? hp0)
    dsimp only at r0 r1 r2 r3
    rw [Nat.mul_zero] at r0 r1 r2
    obtain ⟨n, hn⟩ : ∃ n, l.length = n := ⟨_, rfl⟩
    rw [hn] at h0 hsz ⊢
    have hn0 : (0 : Int) < (n : Int) := by omega
    have HP0 := Lib.hid hp0
    have HWK := Lib.hid hw
    have HN := Lib.hid hn
    have HROW0 := Lib.hid hrow
    clear HW0 hp0 hw hn hrow
    go_enter Tryz.func67, Tryz.ntmps67
    go_wp2_with fail
    have L := (((Lq.mk0 w).q r3).varI (w.heap.size) (by simp) false none 0 0 0 false none 0 0 0)
    have c00 := L.b0.c60
    have f00 := L.b0.fr 0
    have c01 := L.b0.c61
    have f01 := L.b0.fr 1
    have c02 := L.b0.c62
    have f02 := L.b0.fr 2
    have c03 := L.b0.c63
    have f03 := L.b0.fr 3
    have c04 := L.b0.c64
    have f04 := L.b0.fr 4
    have c05 := L.b0.c65
    have f05 := L.b0.fr 5
    (try go_wp2_with fail)
    refine (HW.out _).mono ?_
    rintro e9 w' ⟨rfl, rfl⟩
    (try go_wp2_with fail)
    clear c00 f00 c01 f01 c02 f02 c03 f03 c04 f04 c05 f05
    obtain ⟨V, hV⟩ : ∃ V, w.alloc (.cells #[.bool false, .slice none 0 0, .int .i64 0, .bool false, .slice none 0 0, .int .i64 0] 28) = V := ⟨_, rfl⟩
    rw [hV] at L ⊢
    clear hV
    have hwV := L.b0.lt
    have hgV : g < V.heap.size := by omega
    have HROW := Lib.hid (fun Z (hZ : Below V.heap.size V Z) (j : Nat) (p : Int × Nat) (hp : l[j]? = some p) => (show ∃ A c B k, Z.cell? ⟨g, 3 * j, none⟩ = some (.bool (ng p.1)) ∧ Z.cell? ⟨g, 3 * j + 1, none⟩ = some (.slice A (zl p.1) c) ∧ Z.cell? ⟨g, 3 * j + 2, none⟩ = some (.slice B (len p.2) k) ∧ IsP Z (.agg #[.bool (ng p.1), .slice A (zl p.1) c, .slice B (len p.2) k]) p.1 p.2 from by
      obtain ⟨A, c, B, k, x1, x2, x3, x4⟩ := HROW0.out j p hp
      have hbz := L.below.trans (hZ.mono L.below.size)
      exact ⟨A, c, B, k, (hbz.cell (p := ⟨g, 3 * j, none⟩) hg).trans x1, (hbz.cell (p := ⟨g, 3 * j + 1, none⟩) hg).trans x2, (hbz.cell (p := ⟨g, 3 * j + 2, none⟩) hg).trans x3, x4.mono hbz⟩))
    have q0 := (L.below.cell (p := ⟨g, 0, none⟩) hg).trans r0
    have q1 := (L.below.cell (p := ⟨g, 0 + 1, none⟩) hg).trans r1
    have q2 := (L.below.cell (p := ⟨g, 0 + 2, none⟩) hg).trans r2
    rw [Nat.zero_add] at q1 q2
    have Q0 := Lib.hid (fun Z (hZ : Below V.heap.size V Z) => (hZ.cell (p := ⟨g, 0, none⟩) hgV).trans q0)
    have Q1 := Lib.hid (fun Z (hZ : Below V.heap.size V Z) => (hZ.cell (p := ⟨g, 1, none⟩) hgV).trans q1)
    have Q2 := Lib.hid (fun Z (hZ : Below V.heap.size V Z) => (hZ.cell (p := ⟨g, 2, none⟩) hgV).trans q2)
    clear q0 q1 q2 r0 r1 r2 r3 HROW0
    have D0 : Dq V V [] [] [(.agg #[.bool (ng a0), .slice A0 (zl a0) c0, .slice B0 (len d0) k0], a0, d0)] [] := ⟨(Lq.mk0 V).q (L.getQ (by simp)), List.nodup_nil, fun p hp => by cases hp⟩
    have D := D0.drew
    have LL := Lib.hid L
    clear L
    obtain ⟨K, hK⟩ : ∃ K, V.heap.size = K := ⟨_, rfl⟩
    have hz0 : K ≤ V.heap.size := by omega
    have hcg : g < K := by omega
    have hmd : V.drew.heap.size = K := hK
    go_cut [6, 7] from 19 to 25 (fun s6 s7 wx => Made2R V a0 d0 a0 d0 s6 s7 wx)
    case first =>
      go_region_held3 (fun w' => w'.cell? ⟨g, 0, none⟩ = some (.bool (ng a0)) ∧ w'.cell? ⟨g, 1, none⟩ = some (.slice A0 (zl a0) c0) ∧ w'.cell? ⟨g, 2, none⟩ = some (.slice B0 (len d0) k0)) (((try dsimp only); refine ⟨?_, ?_, ?_⟩ <;> (repeat (first | (with_reducible exact Q0.out _ D.lq.below) | (with_reducible exact Q0.out _ D0.lq.below) | (with_reducible exact Q1.out _ D.lq.below) | (with_reducible exact Q1.out _ D0.lq.below) | (with_reducible exact Q2.out _ D.lq.below) | (with_reducible exact Q2.out _ D0.lq.below) | (with_reducible refine c_alloc _ ?_) | (with_reducible refine c_drew ?_) | (with_reducible refine c_set ?_ (by assumption) ?_) | omega)))) (fail)
      all_goals
        go_wp2_with fail
        go_meet
        have E1 := (D0.box2 (ng a0) A0 B0 (zl a0) c0 (len d0) k0 (ng a0) A0 B0 (zl a0) c0 (len d0) k0).drew
        rw [hK] at E1
        first
        | exact made2r_of E1.swap (by simp) (by simp)
        | exact made2r_of E1 (by simp) (by simp)
    case rest =>
      obtain ⟨g6, g7, A1, B1, c1, k1, A2, B2, c2, k2, rfl, rfl, hg6, hg7, hg67, bw, hb1, hb2, hq1, hq2⟩ := hcut
      have L := (((((Lq.mk0 V).step bw).q hq2).q hq1).b hb2).b hb1
      clear D D0 hmd hz0 hK hb1 hb2 hq1 hq2 bw Q0 Q1 Q2 hcg
      generalize wc = wd at *
      have HF := Lib.hid (show LoopF l 0 a0 d0 a0 d0 from ⟨HM0.out, HM0.out, fun j p hj => absurd hj (Nat.not_lt_zero j)⟩)
      (try go_wp2_with fail)
      go_loopw [27] (fun i wr => ∃ (t : Nat) (a1 : Int) (d1 : Nat) (A1 B1 : Option Addr) (c1 k1 : Nat) (a2 : Int) (d2 : Nat) (A2 B2 : Option Addr) (c2 k2 : Nat), i = .int .i64 (t : Int) ∧ t ≤ n ∧ Lq V wr [] [] [(.agg #[.bool (ng a1), .slice A1 (zl a1) c1, .slice B1 (len d1) k1], a1, d1), (.agg #[.bool (ng a2), .slice A2 (zl a2) c2, .slice B2 (len d2) k2], a2, d2)] [(g6, 57, #[.bool (ng a1), .slice A1 (zl a1) c1, .slice B1 (len d1) k1]), (g7, 57, #[.bool (ng a2), .slice A2 (zl a2) c2, .slice B2 (len d2) k2])] ∧ Hid (LoopF l t a1 d1 a2 d2)) (fun i _ => n - (intOf i).toNat)
      case atStart => exact ⟨0, a0, d0, A1, B1, c1, k1, a0, d0, A2, B2, c2, k2, rfl, by omega, L, HF⟩
      case round =>
        clear L HF
        obtain ⟨t, a1, d1, A1, B1, c1, k1, a2, d2, A2, B2, c2, k2, rfl, ht, L, HF⟩ := hrel
        rcases Nat.eq_or_lt_of_le ht with rfl | ht3
        · have ha := HF.out.all HN.out
          have el := least_eq HLO.out HF.out.1 ha.1
          have eh := most_eq HHI.out HF.out.2.1 ha.2
          obtain ⟨wp, wk1, wk2⟩ := work_perm HWK.out
          have hd1 := HB.out _ HF.out.1
          have hd2 := HB.out _ HF.out.2.1
          dsimp only at hd1 hd2
          have f1 := fun v W h => rfloorR9_any a1 d1 k v W h (by omega) (by omega) hd1.2.2 hk1 hk2
          have f2 := fun v W h => rceilR9_any a2 d2 k v W h (by omega) (by omega) hd2.2.2 hk1 hk2
          have y1 := zl_cut a1 d1 hd1.2.2 k
          have y2 := zl_cut (-a2) d2 hd2.2.2 k
          rw [← Rat.neg_divInt] at y2
          rw [show Rat.divInt a1 (d1 : Int) = lo from el] at f1 y1
          rw [show Rat.divInt a2 (d2 : Int) = hi from eh] at f2 y2
          have y3 := zl_neg (cutQ (-hi) k)
          have y4 := zl_neg a2
          have y5 := zl_mk (cutQ lo k) (-k)
          have y6 := zl_mk (-(cutQ (-hi) k)) (-k)
          rw [(g_yes wp (cutQ lo k)).1, (g_yes wp (cutQ lo k)).2.1, (g_yes wp (cutQ lo k)).2.2] at f1
          rw [(g_yes wp (-(cutQ (-hi) k))).1, (g_yes wp (-(cutQ (-hi) k))).2.1, (g_yes wp (-(cutQ (-hi) k))).2.2] at f2
          have hsm := Lib.hid (fun (q1 : mkR (cutQ lo k) (-k) = 0) (q2 : mkR (-(cutQ (-hi) k)) (-k) = 0) v W h => (show Calls Tryz.prog 46 #[v] W (RetB W (enB lo hi k)) from rsmall11_any (enM lo k) (enE lo k) (upM hi k) (upE hi k) v W h (by unfold enM; omega) (by unfold upM; omega) (by have := dv_bound (mk_ok q1); unfold enE; omega) (by have := dv_bound (mk_ok q2); unfold upE; omega) (mk_ok q1) (mk_ok q2)))
          clear el eh ha hd1 hd2 y1 y2 y3 y4 y5 y6 wp
          have HRT := Lib.hid (show RetEn w lo hi k = if mkR (cutQ lo k) (-k) = 0 ∧ mkR (-(cutQ (-hi) k)) (-k) = 0 ∧ enB lo hi k = true then RetIE w (enM lo k) (enE lo k) (upM hi k) (upE hi k) 0 else RetIE w 0 0 0 0 3 from by unfold RetEn; rw [if_pos HWK.out])
          unfold enM enE upM upE at hsm HRT
          have H1 := Lib.hid f1
          have H2 := Lib.hid f2
          clear f1 f2
          generalize mkR (cutQ lo k) (-k) = R1 at *
          generalize mkR (-(cutQ (-hi) k)) (-k) = R2 at *
          generalize mkM (cutQ lo k) (-k) = M at *
          generalize mkE (cutQ lo k) (-k) = E at *
          generalize mkM (-(cutQ (-hi) k)) (-k) = N at *
          generalize mkE (-(cutQ (-hi) k)) (-k) = G at *
          generalize enB lo hi k = b at *
          have hv7 := L.tl.b0
          have hv6 := L.b0
          have L := (((((LL.out.step L.below).q (L.getQ (v := .agg #[.bool (ng a2), .slice A2 (zl a2) c2, .slice B2 (len d2) k2]) (a := a2) (d := d2) (by simp))).q (L.getQ (v := .agg #[.bool (ng a1), .slice A1 (zl a1) c1, .slice B1 (len d1) k1]) (a := a1) (d := d1) (by simp))).b hv7).b hv6)
          clear hv6 hv7 HF HROW
          cases hr1 : decide (R1 = 0)
          · replace hr1 := of_decide_eq_false hr1
            have e1 : (R1 != 0) = true := by simpa using hr1
            have e2 : (R1 == 0) = false := by simpa using hr1
            clear hsm
            have cel00 := L.b0.c30
            have cel01 := L.b0.c31
            have cel02 := L.b0.c32
            go_wp2_with fail
            refine (H1.out _ _ (L.getQ (v := .agg #[.bool (ng a1), .slice A1 (zl a1) c1, .slice B1 (len d1) k1]) (a := a1) (d := d1) (by simp))).mono ?_
            rintro e w41 ⟨vv, rfl, id, be⟩
            clear cel00 cel01 cel02
            obtain ⟨A8, c8, rfl, _, in9⟩ := id.form
            replace L := (L.step be).n in9
            clear be id in9
            have hlg8 := L.b0.lt
            replace L := L.varD w41.heap.size rfl (ng M) A8 (zl M) c8 E
            have cel20 := L.tl.tl.b0.c30
            have cel21 := L.tl.tl.b0.c31
            have cel22 := L.tl.tl.b0.c32
            go_wp2_with fail
            obtain ⟨g8, hg⟩ : ∃ g, w41.heap.size = g := ⟨_, rfl⟩
            rw [hg] at L hlg8 ⊢
            clear hg
            refine (H2.out _ _ (L.getQ (v := .agg #[.bool (ng a2), .slice A2 (zl a2) c2, .slice B2 (len d2) k2]) (a := a2) (d := d2) (by simp))).mono ?_
            rintro e w42 ⟨vv, rfl, id, be⟩
            clear cel20 cel21 cel22
            obtain ⟨A9, c9, rfl, _, in9⟩ := id.form
            replace L := (L.step be).n in9
            clear be id in9
            have hl9 := L.b0.lt
            replace L := L.varD w42.heap.size rfl (ng N) A9 (zl N) c9 G
            have cel00 := L.b0.c30
            have cel01 := L.b0.c31
            have cel02 := L.b0.c32
            have cel10 := L.tl.b0.c30
            have cel11 := L.tl.b0.c31
            have cel12 := L.tl.b0.c32
            replace L := L.varI (w42.heap.size + 1) (by simp) (ng M) A8 (zl M) c8 E (ng N) A9 (zl N) c9 G
            have cem00 := L.b0.c60
            have cem01 := L.b0.c61
            have cem02 := L.b0.c62
            have cem03 := L.b0.c63
            have cem04 := L.b0.c64
            have cem05 := L.b0.c65
            have R := L.pick [(w.heap.size, 28, #[.bool false, .slice none 0 0, .int .i64 0, .bool false, .slice none 0 0, .int .i64 0])] (by simp)
            have r0 := R.b0.c60
            have s0 := R.b0.fr 0
            have r1 := R.b0.c61
            have s1 := R.b0.fr 1
            have r2 := R.b0.c62
            have s2 := R.b0.fr 2
            have r3 := R.b0.c63
            have s3 := R.b0.fr 3
            have r4 := R.b0.c64
            have s4 := R.b0.fr 4
            have r5 := R.b0.c65
            have s5 := R.b0.fr 5
            go_wp2_with fail
            have LP := R.putI (Nat.le_refl _) (by simp) false none 0 0 0 false none 0 0 0
            have k0' := LP.b0.c60
            have k1' := LP.b0.c61
            have k2' := LP.b0.c62
            have k3' := LP.b0.c63
            have k4' := LP.b0.c64
            have k5' := LP.b0.c65
            unfold put6 at k0' k1' k2' k3' k4' k5'
            exact bodyPost_ret (v := .tuple #[.agg #[.bool false, .slice none 0 0, .int .i64 0, .bool false, .slice none 0 0, .int .i64 0], .int .i64 3]) (by simp [results, Tryz.results67, go_sem, k0', k1', k2', k3', k4', k5']) rfl (by rw [HRT.out, if_neg (fun h => hr1 h.1)]; exact ⟨_, rfl, isI_zero _, LP.below⟩)
          · obtain rfl := of_decide_eq_true hr1
            have HR1 := Lib.hid (rfl : (0 : Int) = 0)
            clear hr1
            cases hr2 : decide (R2 = 0)
            · replace hr2 := of_decide_eq_false hr2
              have e1 : (R2 != 0) = true := by simpa using hr2
              have e2 : (R2 == 0) = false := by simpa using hr2
              clear hsm
              have cel00 := L.b0.c30
              have cel01 := L.b0.c31
              have cel02 := L.b0.c32
              go_wp2_with fail
              refine (H1.out _ _ (L.getQ (v := .agg #[.bool (ng a1), .slice A1 (zl a1) c1, .slice B1 (len d1) k1]) (a := a1) (d := d1) (by simp))).mono ?_
              rintro e w41 ⟨vv, rfl, id, be⟩
              clear cel00 cel01 cel02
              obtain ⟨A8, c8, rfl, _, in9⟩ := id.form
              replace L := (L.step be).n in9
              clear be id in9
              have hlg8 := L.b0.lt
              replace L := L.varD w41.heap.size rfl (ng M) A8 (zl M) c8 E
              have cel20 := L.tl.tl.b0.c30
              have cel21 := L.tl.tl.b0.c31
              have cel22 := L.tl.tl.b0.c32
              go_wp2_with fail
              obtain ⟨g8, hg⟩ : ∃ g, w41.heap.size = g := ⟨_, rfl⟩
              rw [hg] at L hlg8 ⊢
              clear hg
              refine (H2.out _ _ (L.getQ (v := .agg #[.bool (ng a2), .slice A2 (zl a2) c2, .slice B2 (len d2) k2]) (a := a2) (d := d2) (by simp))).mono ?_
              rintro e w42 ⟨vv, rfl, id, be⟩
              clear cel20 cel21 cel22
              obtain ⟨A9, c9, rfl, _, in9⟩ := id.form
              replace L := (L.step be).n in9
              clear be id in9
              have hl9 := L.b0.lt
              replace L := L.varD w42.heap.size rfl (ng N) A9 (zl N) c9 G
              have cel00 := L.b0.c30
              have cel01 := L.b0.c31
              have cel02 := L.b0.c32
              have cel10 := L.tl.b0.c30
              have cel11 := L.tl.b0.c31
              have cel12 := L.tl.b0.c32
              replace L := L.varI (w42.heap.size + 1) (by simp) (ng M) A8 (zl M) c8 E (ng N) A9 (zl N) c9 G
              have cem00 := L.b0.c60
              have cem01 := L.b0.c61
              have cem02 := L.b0.c62
              have cem03 := L.b0.c63
              have cem04 := L.b0.c64
              have cem05 := L.b0.c65
              have R := L.pick [(w.heap.size, 28, #[.bool false, .slice none 0 0, .int .i64 0, .bool false, .slice none 0 0, .int .i64 0])] (by simp)
              have r0 := R.b0.c60
              have s0 := R.b0.fr 0
              have r1 := R.b0.c61
              have s1 := R.b0.fr 1
              have r2 := R.b0.c62
              have s2 := R.b0.fr 2
              have r3 := R.b0.c63
              have s3 := R.b0.fr 3
              have r4 := R.b0.c64
              have s4 := R.b0.fr 4
              have r5 := R.b0.c65
              have s5 := R.b0.fr 5
              go_wp2_with fail
              have LP := R.putI (Nat.le_refl _) (by simp) false none 0 0 0 false none 0 0 0
              have k0' := LP.b0.c60
              have k1' := LP.b0.c61
              have k2' := LP.b0.c62
              have k3' := LP.b0.c63
              have k4' := LP.b0.c64
              have k5' := LP.b0.c65
              unfold put6 at k0' k1' k2' k3' k4' k5'
              exact bodyPost_ret (v := .tuple #[.agg #[.bool false, .slice none 0 0, .int .i64 0, .bool false, .slice none 0 0, .int .i64 0], .int .i64 3]) (by simp [results, Tryz.results67, go_sem, k0', k1', k2', k3', k4', k5']) rfl (by rw [HRT.out, if_neg (fun h => hr2 h.2.1)]; exact ⟨_, rfl, isI_zero _, LP.below⟩)
            · obtain rfl := of_decide_eq_true hr2
              have HR2 := Lib.hid (rfl : (0 : Int) = 0)
              have HS := Lib.hid (hsm.out rfl rfl)
              clear hr2 hsm
              have cel00 := L.b0.c30
              have cel01 := L.b0.c31
              have cel02 := L.b0.c32
              go_wp2_with fail
              refine (H1.out _ _ (L.getQ (v := .agg #[.bool (ng a1), .slice A1 (zl a1) c1, .slice B1 (len d1) k1]) (a := a1) (d := d1) (by simp))).mono ?_
              rintro e w41 ⟨vv, rfl, id, be⟩
              clear cel00 cel01 cel02
              obtain ⟨A8, c8, rfl, _, in9⟩ := id.form
              replace L := (L.step be).n in9
              clear be id in9
              have hlg8 := L.b0.lt
              replace L := L.varD w41.heap.size rfl (ng M) A8 (zl M) c8 E
              have cel20 := L.tl.tl.b0.c30
              have cel21 := L.tl.tl.b0.c31
              have cel22 := L.tl.tl.b0.c32
              go_wp2_with fail
              obtain ⟨g8, hg⟩ : ∃ g, w41.heap.size = g := ⟨_, rfl⟩
              rw [hg] at L hlg8 ⊢
              clear hg
              refine (H2.out _ _ (L.getQ (v := .agg #[.bool (ng a2), .slice A2 (zl a2) c2, .slice B2 (len d2) k2]) (a := a2) (d := d2) (by simp))).mono ?_
              rintro e w42 ⟨vv, rfl, id, be⟩
              clear cel20 cel21 cel22
              obtain ⟨A9, c9, rfl, _, in9⟩ := id.form
              replace L := (L.step be).n in9
              clear be id in9
              have hl9 := L.b0.lt
              replace L := L.varD w42.heap.size rfl (ng N) A9 (zl N) c9 G
              have cel00 := L.b0.c30
              have cel01 := L.b0.c31
              have cel02 := L.b0.c32
              have cel10 := L.tl.b0.c30
              have cel11 := L.tl.b0.c31
              have cel12 := L.tl.b0.c32
              replace L := L.varI (w42.heap.size + 1) (by simp) (ng M) A8 (zl M) c8 E (ng N) A9 (zl N) c9 G
              have cem00 := L.b0.c60
              have cem01 := L.b0.c61
              have cem02 := L.b0.c62
              have cem03 := L.b0.c63
              have cem04 := L.b0.c64
              have cem05 := L.b0.c65
              go_wp2_with fail
              refine (HS.out _ _ (isI_n (s := .slice A8 (zl M) c8) (t := .slice A9 (zl N) c9) (L.getN (by simp)) (L.getN (by simp)))).mono ?_
              rintro e w43 ⟨rfl, be⟩
              clear cem00 cem01 cem02 cem03 cem04 cem05 cel00 cel01 cel02 cel10 cel11 cel12
              replace L := L.step be
              clear be
              cases b
              · skip
                have cel00 := L.b0.c60
                have cel01 := L.b0.c61
                have cel02 := L.b0.c62
                have cel03 := L.b0.c63
                have cel04 := L.b0.c64
                have cel05 := L.b0.c65
                have R := L.pick [(w.heap.size, 28, #[.bool false, .slice none 0 0, .int .i64 0, .bool false, .slice none 0 0, .int .i64 0])] (by simp)
                have r0 := R.b0.c60
                have s0 := R.b0.fr 0
                have r1 := R.b0.c61
                have s1 := R.b0.fr 1
                have r2 := R.b0.c62
                have s2 := R.b0.fr 2
                have r3 := R.b0.c63
                have s3 := R.b0.fr 3
                have r4 := R.b0.c64
                have s4 := R.b0.fr 4
                have r5 := R.b0.c65
                have s5 := R.b0.fr 5
                go_wp2_with fail
                have LP := R.putI (Nat.le_refl _) (by simp) false none 0 0 0 false none 0 0 0
                have k0' := LP.b0.c60
                have k1' := LP.b0.c61
                have k2' := LP.b0.c62
                have k3' := LP.b0.c63
                have k4' := LP.b0.c64
                have k5' := LP.b0.c65
                unfold put6 at k0' k1' k2' k3' k4' k5'
                exact bodyPost_ret (v := .tuple #[.agg #[.bool false, .slice none 0 0, .int .i64 0, .bool false, .slice none 0 0, .int .i64 0], .int .i64 3]) (by simp [results, Tryz.results67, go_sem, k0', k1', k2', k3', k4', k5']) rfl (by rw [HRT.out, if_neg (fun h => (by cases h.2.2))]; exact ⟨_, rfl, isI_zero _, LP.below⟩)
              · skip
                have cel00 := L.b0.c60
                have cel01 := L.b0.c61
                have cel02 := L.b0.c62
                have cel03 := L.b0.c63
                have cel04 := L.b0.c64
                have cel05 := L.b0.c65
                have R := L.pick [(w.heap.size, 28, #[.bool false, .slice none 0 0, .int .i64 0, .bool false, .slice none 0 0, .int .i64 0])] (by simp)
                have r0 := R.b0.c60
                have s0 := R.b0.fr 0
                have r1 := R.b0.c61
                have s1 := R.b0.fr 1
                have r2 := R.b0.c62
                have s2 := R.b0.fr 2
                have r3 := R.b0.c63
                have s3 := R.b0.fr 3
                have r4 := R.b0.c64
                have s4 := R.b0.fr 4
                have r5 := R.b0.c65
                have s5 := R.b0.fr 5
                go_wp2_with fail
                have LP := R.putI (Nat.le_refl _) (by simp) (ng M) A8 (zl M) c8 E (ng N) A9 (zl N) c9 G
                have k0' := LP.b0.c60
                have k1' := LP.b0.c61
                have k2' := LP.b0.c62
                have k3' := LP.b0.c63
                have k4' := LP.b0.c64
                have k5' := LP.b0.c65
                unfold put6 at k0' k1' k2' k3' k4' k5'
                exact bodyPost_ret (v := .tuple #[.agg #[.bool (ng M), .slice A8 (zl M) c8, .int .i64 E, .bool (ng N), .slice A9 (zl N) c9, .int .i64 G], .int .i64 0]) (by simp [results, Tryz.results67, go_sem, k0', k1', k2', k3', k4', k5']) rfl (by rw [HRT.out, if_pos ⟨HR1.out, HR2.out, by first | trivial | rfl⟩]; exact ⟨_, rfl, isI_n (LP.getN (by simp)) (LP.getN (by simp)), LP.below⟩)
        · obtain ⟨⟨a, d⟩, hp⟩ : ∃ p, l[t]? = some p := ⟨_, List.getElem?_eq_getElem (by rw [HN.out]; exact ht3)⟩
          obtain ⟨A, cc, B, kk, e0, e1, e2, iq⟩ := HROW.out _ L.below t _ hp
          dsimp only at e0 e1 e2 iq
          rw [Nat.mul_comm 3 t] at e0 e1 e2
          have HP := Lib.hid hp
          have hd := HB.out _ (List.mem_of_getElem? hp)
          have hd1 := HB.out _ HF.out.1
          have hd2 := HB.out _ HF.out.2.1
          dsimp only at hd hd1 hd2
          have z1 := fun v u W h1 h2 => rcmp7_any a d a1 d1 v u W h1 h2 (by omega) (by omega) (by omega) (by omega)
          have z2 := fun v u W h1 h2 => rcmp7_any a d a2 d2 v u W h1 h2 (by omega) (by omega) (by omega) (by omega)
          have j1 := cmpI_ltq (a := a) (b := a1) hd.2.2 hd1.2.2
          have j2 := cmpI_gtq (a := a) (b := a2) hd.2.2 hd2.2.2
          obtain ⟨x1, hx1⟩ : ∃ x, cmpI (a * (d1 : Int)) (a1 * (d : Int)) = x := ⟨_, rfl⟩
          obtain ⟨x2, hx2⟩ : ∃ x, cmpI (a * (d2 : Int)) (a2 * (d : Int)) = x := ⟨_, rfl⟩
          rw [hx1] at z1 j1
          rw [hx2] at z2 j2
          have C1 := Lib.hid z1
          have C2 := Lib.hid z2
          have J1 := Lib.hid j1
          have J2 := Lib.hid j2
          have hlt : (t : Int) < (n : Int) := by omega
          have ht0 : (0 : Int) ≤ (t : Int) := by omega
          have hl6 := L.b0.lt
          have hl7 := L.tl.b0.lt
          clear hp z1 z2 j1 j2 hx1 hx2 hd hd1 hd2
          replace L := (L.q iq).varQ wr.heap.size rfl (ng a) A B (zl a) cc (len d) kk
          clear iq
          have cel00 := L.b0.c30
          have cel01 := L.b0.c31
          have cel02 := L.b0.c32
          have cel10 := L.tl.b0.c30
          have cel11 := L.tl.b0.c31
          have cel12 := L.tl.b0.c32
          go_wp2_with fail
          obtain ⟨gx, hgx⟩ : ∃ gx, wr.heap.size = gx := ⟨_, rfl⟩
          rw [hgx] at L hl6 hl7 cel00 cel01 cel02 ⊢
          clear hgx e0 e1 e2
          have n1 : g6 ≠ gx := by omega
          have n2 : g7 ≠ gx := by omega
          have n3 : g7 ≠ g6 := Ne.symm hg67
          refine (C1.out _ _ _ (L.getQ (v := .agg #[.bool (ng a), .slice A (zl a) cc, .slice B (len d) kk]) (a := a) (d := d) (by simp)) (L.getQ (v := .agg #[.bool (ng a1), .slice A1 (zl a1) c1, .slice B1 (len d1) k1]) (a := a1) (d := d1) (by simp))).mono ?_
          rintro e w21 ⟨rfl, be⟩
          clear cel00 cel01 cel02 cel10 cel11 cel12
          replace L := L.step be
          clear be
          by_cases y1 : x1 < 0
          · have t1 : decide (x1 < 0) = true := decide_eq_true y1
            have cel00 := L.b0.c30
            have f00 := L.b0.fr 0
            have cel01 := L.b0.c31
            have f01 := L.b0.fr 1
            have cel02 := L.b0.c32
            have f02 := L.b0.fr 2
            have cel10 := L.tl.b0.c30
            have f10 := L.tl.b0.fr 0
            have cel11 := L.tl.b0.c31
            have f11 := L.tl.b0.fr 1
            have cel12 := L.tl.b0.c32
            have f12 := L.tl.b0.fr 2
            have P := (L.swap.putQ hg6 (by simp [n1, n2, n3, Ne.symm n1]) (ng a) A B (zl a) cc (len d) kk).swap
            have p0 := P.b0.c30
            have p1 := P.b0.c31
            have p2 := P.b0.c32
            have p3 := P.tl.tl.b0.c30
            have p4 := P.tl.tl.b0.c31
            have p5 := P.tl.tl.b0.c32
            unfold put3 at p0 p1 p2 p3 p4 p5 P
            replace L := P
            go_wp2_with fail
            refine (C2.out _ _ _ (L.getQ (v := .agg #[.bool (ng a), .slice A (zl a) cc, .slice B (len d) kk]) (a := a) (d := d) (by simp)) (L.getQ (v := .agg #[.bool (ng a2), .slice A2 (zl a2) c2, .slice B2 (len d2) k2]) (a := a2) (d := d2) (by simp))).mono ?_
            rintro e w22 ⟨rfl, be⟩
            replace L := L.step be
            clear be
            by_cases y2 : 0 < x2
            · have t2 : decide (0 < x2) = true := decide_eq_true y2
              have cel00 := L.b0.c30
              have f00 := L.b0.fr 0
              have cel01 := L.b0.c31
              have f01 := L.b0.fr 1
              have cel02 := L.b0.c32
              have f02 := L.b0.fr 2
              have cel20 := L.tl.tl.b0.c30
              have f20 := L.tl.tl.b0.fr 0
              have cel21 := L.tl.tl.b0.c31
              have f21 := L.tl.tl.b0.fr 1
              have cel22 := L.tl.tl.b0.c32
              have f22 := L.tl.tl.b0.fr 2
              have P := (L.pull2.putQ hg7 (by simp [n1, n2, n3, Ne.symm n1, Ne.symm n2, Ne.symm n3]) (ng a) A B (zl a) cc (len d) kk)
              unfold put3 at P
              replace L := P
              go_wp2_with fail
              go_roundw
              case rel => exact ⟨t + 1, a, d, A, B, cc, kk, a, d, A, B, cc, kk, by go_num, by omega, L.two (by simp) (by simp) (by simp) (by simp), Lib.hid (HF.out.step HP.out (List.mem_of_getElem? HP.out) (List.mem_of_getElem? HP.out) (Rat.le_of_lt (J1.out.1 y1)) Rat.le_refl (Rat.le_of_lt (J2.out.1 y2)) Rat.le_refl)⟩
              case measure => simp [intOf]; omega
            · have t2 : decide (0 < x2) = false := decide_eq_false y2
              have cel00 := L.b0.c30
              have f00 := L.b0.fr 0
              have cel01 := L.b0.c31
              have f01 := L.b0.fr 1
              have cel02 := L.b0.c32
              have f02 := L.b0.fr 2
              have cel20 := L.tl.tl.b0.c30
              have f20 := L.tl.tl.b0.fr 0
              have cel21 := L.tl.tl.b0.c31
              have f21 := L.tl.tl.b0.fr 1
              have cel22 := L.tl.tl.b0.c32
              have f22 := L.tl.tl.b0.fr 2
              go_wp2_with fail
              go_roundw
              case rel => exact ⟨t + 1, a, d, A, B, cc, kk, a2, d2, A2, B2, c2, k2, by go_num, by omega, L.two (by simp) (by simp) (by simp) (by simp), Lib.hid (HF.out.step HP.out (List.mem_of_getElem? HP.out) HF.out.2.1 (Rat.le_of_lt (J1.out.1 y1)) Rat.le_refl Rat.le_refl (Rat.not_lt.1 (fun h => absurd (J2.out.2 h) (by omega))))⟩
              case measure => simp [intOf]; omega
          · have t1 : decide (x1 < 0) = false := decide_eq_false y1
            have cel00 := L.b0.c30
            have f00 := L.b0.fr 0
            have cel01 := L.b0.c31
            have f01 := L.b0.fr 1
            have cel02 := L.b0.c32
            have f02 := L.b0.fr 2
            have cel20 := L.tl.tl.b0.c30
            have cel21 := L.tl.tl.b0.c31
            have cel22 := L.tl.tl.b0.c32
            go_wp2_with fail
            refine (C2.out _ _ _ (L.getQ (v := .agg #[.bool (ng a), .slice A (zl a) cc, .slice B (len d) kk]) (a := a) (d := d) (by simp)) (L.getQ (v := .agg #[.bool (ng a2), .slice A2 (zl a2) c2, .slice B2 (len d2) k2]) (a := a2) (d := d2) (by simp))).mono ?_
            rintro e w22 ⟨rfl, be⟩
            replace L := L.step be
            clear be
            by_cases y2 : 0 < x2
            · have t2 : decide (0 < x2) = true := decide_eq_true y2
              have cel00 := L.b0.c30
              have f00 := L.b0.fr 0
              have cel01 := L.b0.c31
              have f01 := L.b0.fr 1
              have cel02 := L.b0.c32
              have f02 := L.b0.fr 2
              have cel20 := L.tl.tl.b0.c30
              have f20 := L.tl.tl.b0.fr 0
              have cel21 := L.tl.tl.b0.c31
              have f21 := L.tl.tl.b0.fr 1
              have cel22 := L.tl.tl.b0.c32
              have f22 := L.tl.tl.b0.fr 2
              have P := (L.pull2.putQ hg7 (by simp [n1, n2, n3, Ne.symm n1, Ne.symm n2, Ne.symm n3]) (ng a) A B (zl a) cc (len d) kk)
              unfold put3 at P
              replace L := P
              go_wp2_with fail
              go_roundw
              case rel => exact ⟨t + 1, a1, d1, A1, B1, c1, k1, a, d, A, B, cc, kk, by go_num, by omega, L.two (by simp) (by simp) (by simp) (by simp), Lib.hid (HF.out.step HP.out HF.out.1 (List.mem_of_getElem? HP.out) Rat.le_refl (Rat.not_lt.1 (fun h => absurd (J1.out.2 h) (by omega))) (Rat.le_of_lt (J2.out.1 y2)) Rat.le_refl)⟩
              case measure => simp [intOf]; omega
            · have t2 : decide (0 < x2) = false := decide_eq_false y2
              have cel00 := L.b0.c30
              have f00 := L.b0.fr 0
              have cel01 := L.b0.c31
              have f01 := L.b0.fr 1
              have cel02 := L.b0.c32
              have f02 := L.b0.fr 2
              have cel20 := L.tl.tl.b0.c30
              have f20 := L.tl.tl.b0.fr 0
              have cel21 := L.tl.tl.b0.c31
              have f21 := L.tl.tl.b0.fr 1
              have cel22 := L.tl.tl.b0.c32
              have f22 := L.tl.tl.b0.fr 2
              go_wp2_with fail
              go_roundw
              case rel => exact ⟨t + 1, a1, d1, A1, B1, c1, k1, a2, d2, A2, B2, c2, k2, by go_num, by omega, L.two (by simp) (by simp) (by simp) (by simp), Lib.hid (HF.out.step HP.out HF.out.1 HF.out.2.1 Rat.le_refl (Rat.not_lt.1 (fun h => absurd (J1.out.2 h) (by omega))) Rat.le_refl (Rat.not_lt.1 (fun h => absurd (J2.out.2 h) (by omega))))⟩
              case measure => simp [intOf]; omega

end Go.Proofs.YthfabjpbdgieoaaGreatDoor


/- The reference's Const. -/
namespace Go.Proofs.YthfabjpbdgieoaaGreatDoor
open Go.RowKit
set_option linter.unusedVariables false
set_option linter.unusedSimpArgs false
set_option maxRecDepth 100000
attribute [local go_sem ↓] Go.wp_at_zero Go.wp_at_succ

theorem RetEn.form {W w' : World} {en : Ending} {lo hi : Rat} {k : Int} (h : RetEn W lo hi k en w') : ∃ v er m e n f, en = .returned (.tuple #[v, .int .i64 er]) ∧ IsI w' v m e n f ∧ Below W.heap.size W w' ∧ ∀ (w0 w2 : World) (u : Value), IsI w2 u m e n f → Below w0.heap.size w0 w2 → RetEn w0 lo hi k (.returned (.tuple #[u, .int .i64 er])) w2 := by
  unfold RetEn at h ⊢
  split at h
  · rename_i h1
    split at h
    · rename_i h2
      obtain ⟨v, r, hi, hb⟩ := h
      exact ⟨v, 0, _, _, _, _, r, hi, hb, fun w0 w2 u h3 h4 => by rw [if_pos h1, if_pos h2]; exact ⟨u, rfl, h3, h4⟩⟩
    · rename_i h2
      obtain ⟨v, r, hi, hb⟩ := h
      exact ⟨v, 3, _, _, _, _, r, hi, hb, fun w0 w2 u h3 h4 => by rw [if_pos h1, if_neg h2]; exact ⟨u, rfl, h3, h4⟩⟩
  · rename_i h1
    obtain ⟨v, r, hi, hb⟩ := h
    exact ⟨v, 1, _, _, _, _, r, hi, hb, fun w0 w2 u h3 h4 => by rw [if_neg h1]; exact ⟨u, rfl, h3, h4⟩⟩
theorem rowR_2 {w : World} {g : Nat} {a b : Int} {d q c k c' k' : Nat} {A B A' B' : Option Addr} (hv : Var w g 57 #[.bool (ng a), .slice A (zl a) c, .slice B (len d) k, .bool (ng b), .slice A' (zl b) c', .slice B' (len q) k']) (hq : IsP w (.agg #[.bool (ng a), .slice A (zl a) c, .slice B (len d) k]) a d) (hq2 : IsP w (.agg #[.bool (ng b), .slice A' (zl b) c', .slice B' (len q) k']) b q) : RowR w (.slice (some ⟨g, 0, none⟩) 2 2) [(a, d), (b, q)] := by
  refine ⟨g, 2, rfl, hv.lt, fun j p hp => ?_⟩
  match j with
  | 0 =>
    obtain rfl : (a, d) = p := by simpa using hp
    exact ⟨A, c, B, k, hv.cell 0, hv.cell 1, hv.cell 2, hq⟩
  | 1 =>
    obtain rfl : (b, q) = p := by simpa using hp
    exact ⟨A', c', B', k', hv.cell 3, hv.cell 4, hv.cell 5, hq2⟩
  | j + 2 => simp at hp
end Go.Proofs.YthfabjpbdgieoaaGreatDoor


/- The images of the operations: which of two or four fractions are the least and the greatest. -/
namespace Go.Proofs.YthfabjpbdgieoaaGreatDoor
open Go.RowKit
set_option linter.unusedVariables false
set_option linter.unusedSimpArgs false
set_option maxRecDepth 100000
attribute [local go_sem ↓] Go.wp_at_zero Go.wp_at_succ

/-- The ends of a small interval are short. -/
theorem small_end {m e : Int} (hv : Dv m e) (h1 : topZ m e ≤ 2048) (h2 : onB m e 8192 = true) : zl m ≤ 400 ∧ (-10000 ≤ e ∧ e ≤ 10000) := by
  rcases hv with ⟨rfl, rfl⟩ | ⟨h0, _⟩
  · rw [zl_zero]; omega
  · unfold topZ at h1
    rw [if_neg h0] at h1
    unfold onB at h2
    rw [Bool.and_eq_true, decide_eq_false h0, Bool.false_or, decide_eq_true_iff] at h2
    have hb := blen_pos (x := m.natAbs) (by omega)
    have hl : ∀ K : Nat, 10240 ≤ 32 * K → zl m ≤ K := fun K hK => by
      unfold zl
      refine len_le ?_
      rw [W32_pow]
      exact Nat.lt_of_lt_of_le (lt_two_pow_blen _) (Nat.pow_le_pow_right (by omega) (by omega))
    exact ⟨hl 400 (by omega), by omega, by omega⟩
theorem small_ends {m e n f : Int} (h : smallB m e n f = true) (h1 : Dv m e) (h2 : Dv n f) : (zl m ≤ 400 ∧ (-10000 ≤ e ∧ e ≤ 10000)) ∧ (zl n ≤ 400 ∧ (-10000 ≤ f ∧ f ≤ 10000)) ∧ dcm m e n f ≤ 0 := by
  unfold smallB at h
  rw [Bool.and_eq_true, Bool.and_eq_true, Bool.and_eq_true, Bool.and_eq_true, decide_eq_true_iff, decide_eq_true_iff, decide_eq_true_iff] at h
  obtain ⟨a, b, c, d, e⟩ := h
  exact ⟨small_end h1 b d, small_end h2 c e, a⟩
/-- What an operation returns, whatever it is, are four numbers and an error that only the two ends of the image and the precision decide. -/
theorem RetEn.fix (lo hi : Rat) (k : Int) : ∃ M E N G er : Int, (∀ W, RetEn W lo hi k = RetIE W M E N G er) ∧ (zl M ≤ 400 ∧ (-10000 ≤ E ∧ E ≤ 10000)) ∧ (zl N ≤ 400 ∧ (-10000 ≤ G ∧ G ≤ 10000)) ∧ (er = 0 → workB k = true ∧ mkR (cutQ lo k) (-k) = 0 ∧ mkR (-(cutQ (-hi) k)) (-k) = 0 ∧ M = enM lo k ∧ E = enE lo k ∧ N = upM hi k ∧ G = upE hi k) ∧ Dv M E ∧ Dv N G := by
  have z0 : zl 0 ≤ 400 ∧ (-10000 ≤ (0 : Int) ∧ (0 : Int) ≤ 10000) := ⟨by rw [zl_zero]; omega, by omega, by omega⟩
  have d0 : Dv 0 0 := Or.inl ⟨rfl, rfl⟩
  by_cases h1 : workB k = true
  · by_cases h2 : mkR (cutQ lo k) (-k) = 0 ∧ mkR (-(cutQ (-hi) k)) (-k) = 0 ∧ enB lo hi k = true
    · have v1 : Dv (enM lo k) (enE lo k) := mk_ok h2.1
      have v2 : Dv (upM hi k) (upE hi k) := mk_ok h2.2.1
      obtain ⟨b1, b2, _⟩ := small_ends h2.2.2 v1 v2
      exact ⟨enM lo k, enE lo k, upM hi k, upE hi k, 0, fun W => by unfold RetEn; rw [if_pos h1, if_pos h2], b1, b2, fun _ => ⟨h1, h2.1, h2.2.1, rfl, rfl, rfl, rfl⟩, v1, v2⟩
    · exact ⟨0, 0, 0, 0, 3, fun W => by unfold RetEn; rw [if_pos h1, if_neg h2], z0, z0, fun h => absurd h (by decide), d0, d0⟩
  · exact ⟨0, 0, 0, 0, 1, fun W => by unfold RetEn; rw [if_neg h1], z0, z0, fun h => absurd h (by decide), d0, d0⟩
/-- Short ends of the image, and a permitted precision: there is a result. -/
theorem RetEn.ok {lo hi : Rat} {k : Int} (hk : workB k = true) {z : Nat} (h1 : zl (cutQ lo k) ≤ z + (k.toNat / 32 + 1)) (h2 : zl (-(cutQ (-hi) k)) ≤ z + (k.toNat / 32 + 1)) (hz : z ≤ 60) (hle : lo ≤ hi) : ∀ W, RetEn W lo hi k = RetIE W (enM lo k) (enE lo k) (upM hi k) (upE hi k) 0 := fun W => by
  obtain ⟨_, p1, p2⟩ := work_perm hk
  obtain ⟨a1, a2, a3⟩ := mk_small h1 hz ⟨p1, p2⟩
  obtain ⟨b1, b2, b3⟩ := mk_small h2 hz ⟨p1, p2⟩
  have hsm : enB lo hi k = true := by
    unfold enB smallB
    rw [Bool.and_eq_true, Bool.and_eq_true, Bool.and_eq_true, Bool.and_eq_true, decide_eq_true_iff, decide_eq_true_iff, decide_eq_true_iff, dcm_le]
    exact ⟨Rat.le_trans (Rat.le_trans (en_lo a1) hle) (up_hi b1), a2, b2, a3, b3⟩
  unfold RetEn
  rw [if_pos hk, if_pos ⟨a1, b1, hsm⟩]


end Go.Proofs.YthfabjpbdgieoaaGreatDoor


/- Short ends of the image and a permitted precision: there is a result, and it contains the image. -/
namespace Go.Proofs.YthfabjpbdgieoaaGreatDoor
open Go.RowKit
set_option linter.unusedVariables false
set_option linter.unusedSimpArgs false
set_option maxRecDepth 100000
attribute [local go_sem ↓] Go.wp_at_zero Go.wp_at_succ

end Go.Proofs.YthfabjpbdgieoaaGreatDoor

