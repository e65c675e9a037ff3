/- Middles, widths and outward rounding, as fractions. -/
import Derived.Test.YtgcmdlannbobgaaDoorIvMath
import Derived.Test.YtgcmdlannbobgaaDoorBaseM
import Derived.Test.YtgcmdlannbobgaaDoorGrPA
namespace Go.Proofs.YtgcmdlannbobgaaDoor
open Go.RowKit
set_option linter.unusedVariables false
set_option linter.unusedSimpArgs false
set_option maxRecDepth 100000
attribute [local go_sem ↓] Go.wp_at_zero Go.wp_at_succ

theorem mk_fits2 {m e : Int} (h : zl m ≤ 1900) (h1 : -60000 ≤ e) (h2 : e ≤ 4000) : mkR m e = 0 := by
  unfold mkR
  rw [if_neg (by omega)]
  by_cases h0 : m = 0
  · rw [if_pos h0]
  · rw [if_neg h0]
    have ht := tz_le8 m.natAbs (by omega)
    have e1 : zl m = len m.natAbs := rfl
    have hb : blen (oddM m).natAbs ≤ 65536 := by
      have := blen_le_len (oddM m).natAbs
      have h3 := zl_odd m
      have e2 : zl (oddM m) = len (oddM m).natAbs := rfl
      omega
    have ho : bitB (oddM m).natAbs 0 = true := by
      obtain ⟨k, hk⟩ := tz_form (x := m.natAbs) (by omega)
      have hd : m.natAbs / 2 ^ tz m.natAbs = 2 * k + 1 := by
        have := Nat.mul_div_cancel_left (2 * k + 1) (Nat.pow_pos (n := tz m.natAbs) (show 0 < 2 by omega))
        rwa [← hk] at this
      unfold bitB
      rw [oddM_abs, hd, Nat.pow_zero, Nat.div_one]
      exact decide_eq_true (by omega)
    have hf : fits8 (oddM m) (oddE m e) = true := by
      unfold fits8 oddE
      rw [decide_eq_true hb, decide_eq_true (by omega), decide_eq_true (by omega), ho]
      rfl
    rw [hf]
    rfl
theorem dq_dbl (C E : Int) : dq C (E + -1) + dq C (E + -1) = dq C E := by
  have h : dq (C + C) (E + -1) = dq C E := dq_eq (F := E + -1) (by rw [show E + -1 - (E + -1) = 0 by omega, show E - (E + -1) = 1 by omega]; show (C + C) * 1 = C * 2; omega) (by omega) (by omega)
  rw [← h, dq_scale, dq_scale (C + C), Rat.intCast_add, Rat.add_mul]
theorem mid_half {x y z : Rat} (h : z + z = x + y) (hxy : x ≤ y) : x ≤ z ∧ z ≤ y := by
  constructor
  · rw [← Rat.not_lt]
    intro hz
    have h1 : z + z < z + x := (Rat.add_lt_add_left (c := z)).2 hz
    have h2 : z + x < x + x := (Rat.add_lt_add_right (c := x)).2 hz
    have h3 : x + x ≤ x + y := (Rat.add_le_add_left (c := x)).2 hxy
    rw [h] at h1
    exact Rat.not_le.2 (rle_lt (rle_lt h1 (Rat.le_of_lt h2)) h3) Rat.le_refl
  · rw [← Rat.not_lt]
    intro hz
    have h1 : y + y < y + z := (Rat.add_lt_add_left (c := y)).2 hz
    have h2 : y + z < z + z := (Rat.add_lt_add_right (c := z)).2 hz
    have h3 : x + y ≤ y + y := (Rat.add_le_add_right (c := y)).2 hxy
    rw [h] at h2
    exact Rat.not_le.2 (rle_lt (rle_lt h1 (Rat.le_of_lt h2)) h3) Rat.le_refl
def midM (m e n f : Int) : Int := mkM (mkM (addS m e n f) (min e f)) (mkE (addS m e n f) (min e f) + -1)
def midE (m e n f : Int) : Int := mkE (mkM (addS m e n f) (min e f)) (mkE (addS m e n f) (min e f) + -1)
/-- What the middle of a short interval is. -/
theorem mid_ok {m e n f : Int} (lm : zl m ≤ 6) (ln : zl n ≤ 6) (he : -60 ≤ e ∧ e ≤ 252) (hf : -60 ≤ f ∧ f ≤ 252) (hle : dcm m e n f ≤ 0) :
    zl (addS m e n f) ≤ 40 ∧ mkR (addS m e n f) (min e f) = 0 ∧ mkR (mkM (addS m e n f) (min e f)) (mkE (addS m e n f) (min e f) + -1) = 0 ∧ Dv (midM m e n f) (midE m e n f) ∧ zl (midM m e n f) ≤ 40 ∧ (-1600 ≤ midE m e n f ∧ midE m e n f ≤ 2880) ∧ dq (midM m e n f) (midE m e n f) + dq (midM m e n f) (midE m e n f) = dq m e + dq n f ∧ dq m e ≤ dq (midM m e n f) (midE m e n f) ∧ dq (midM m e n f) (midE m e n f) ≤ dq n f := by
  have z0 := zl_addS m e n f 252 (by omega) (by omega)
  have r0 := mk_fits (m := addS m e n f) (e := min e f) (by omega) (by omega) (by omega)
  have z1 := zl_mk (addS m e n f) (min e f)
  have b1 := mkE_le (m := addS m e n f) (e := min e f) (K := 252) (by omega) (by omega)
  have d1 := dq_mk r0
  rw [dq_add] at d1
  have zz : zl (addS m e n f) ≤ 40 := by omega
  have r1 := mk_fits (m := mkM (addS m e n f) (min e f)) (e := mkE (addS m e n f) (min e f) + -1) (by omega) (by omega) (by omega)
  have z2 := zl_mk (mkM (addS m e n f) (min e f)) (mkE (addS m e n f) (min e f) + -1)
  have b2 := mkE_le (m := mkM (addS m e n f) (min e f)) (e := mkE (addS m e n f) (min e f) + -1) (K := 1600) (by omega) (by omega)
  have d2 := dq_mk r1
  have d3 := dq_dbl (mkM (addS m e n f) (min e f)) (mkE (addS m e n f) (min e f))
  have v := mk_ok r1
  have hs : dq (midM m e n f) (midE m e n f) + dq (midM m e n f) (midE m e n f) = dq m e + dq n f := by
    rw [show dq (midM m e n f) (midE m e n f) = dq (mkM (addS m e n f) (min e f)) (mkE (addS m e n f) (min e f) + -1) from d2, d3, d1]
  have hh := mid_half hs ((dcm_le _ _ _ _).1 hle)
  refine ⟨zz, r0, r1, v, ?_, ⟨?_, ?_⟩, hs, hh.1, hh.2⟩
  · unfold midM; omega
  · unfold midE; omega
  · unfold midE; omega
/-- What the width of a short interval is. -/
theorem width_ok {m e n f : Int} (lm : zl m ≤ 50) (ln : zl n ≤ 50) (he : -3000 ≤ e ∧ e ≤ 3000) (hf : -3000 ≤ f ∧ f ≤ 3000) : mkR (addS n f (-m) e) (min f e) = 0 ∧ Dv (mkM (addS n f (-m) e) (min f e)) (mkE (addS n f (-m) e) (min f e)) ∧ dq (mkM (addS n f (-m) e) (min f e)) (mkE (addS n f (-m) e) (min f e)) = dq n f - dq m e ∧ zl (mkM (addS n f (-m) e) (min f e)) ≤ 400 ∧ (-20000 ≤ mkE (addS n f (-m) e) (min f e) ∧ mkE (addS n f (-m) e) (min f e) ≤ 20000) := by
  have z0 := zl_addS n f (-m) e 3000 (by omega) (by omega)
  have zn := zl_neg m
  have r0 := mk_fits (m := addS n f (-m) e) (e := min f e) (by omega) (by omega) (by omega)
  have z1 := zl_mk (addS n f (-m) e) (min f e)
  have b1 := mkE_le (m := addS n f (-m) e) (e := min f e) (K := 3000) (by omega) (by omega)
  have d1 := dq_mk r0
  rw [dq_add, dq_neg, ← Rat.sub_eq_add_neg] at d1
  exact ⟨r0, mk_ok r0, d1, by omega, by omega⟩
/-- Both halves of an interval are equally wide. -/
theorem half_w {m e n f M E : Int} (lm : zl m ≤ 6) (ln : zl n ≤ 6) (lM : zl M ≤ 40) (he : -60 ≤ e ∧ e ≤ 252) (hf : -60 ≤ f ∧ f ≤ 252) (hE : -1600 ≤ E ∧ E ≤ 2880) (hs : dq M E + dq M E = dq m e + dq n f) :
    mkM (addS M E (-m) e) (min E e) = mkM (addS n f (-M) E) (min f E) ∧ mkE (addS M E (-m) e) (min E e) = mkE (addS n f (-M) E) (min f E) := by
  have a := width_ok (m := m) (e := e) (n := M) (f := E) (by omega) (by omega) (by omega) (by omega)
  have b := width_ok (m := M) (e := E) (n := n) (f := f) (by omega) (by omega) (by omega) (by omega)
  refine dv_uniq a.2.1 b.2.1 ?_
  rw [a.2.2.1, b.2.2.1]
  have h2 : dq M E = (dq m e + dq n f) - dq M E := by
    rw [← hs, Rat.add_sub_cancel]
  have h3 : dq M E - dq m e = ((dq m e + dq n f) - dq M E) - dq m e := by rw [← h2]
  rw [h3, Rat.sub_eq_add_neg, Rat.sub_eq_add_neg, Rat.sub_eq_add_neg, Rat.add_comm (dq m e) (dq n f), Rat.add_assoc, Rat.add_assoc]
  congr 1
  rw [Rat.add_comm (-dq M E), ← Rat.add_assoc, Rat.add_neg_cancel, Rat.zero_add]
theorem gst_hi {m e M E : Int} (h1 : Dv m e) (h2 : Dv M E) (h : dq m e ≤ dq M E) : gstD m e M E = (M, E) := by
  have h0 := (dcm_le _ _ _ _).2 h
  unfold gstD
  split
  · rename_i h3
    obtain ⟨r1, r2⟩ := (dcm_eq h1 h2).1 (by omega)
    rw [r1, r2]
  · rfl
theorem lst_lo {m e M E : Int} (h : dq m e ≤ dq M E) : lstD m e M E = (m, e) := by
  unfold lstD
  rw [if_pos ((dcm_le _ _ _ _).2 h)]
/-- Rounding outwards. -/
theorem out_in {m e n f p : Int} (h1 : mkR (cutQ (dq m e) p) (-p) = 0) (h2 : mkR (-(cutQ (-(dq n f)) p)) (-p) = 0) :
    inB m e n f (mkM (cutQ (dq m e) p) (-p)) (mkE (cutQ (dq m e) p) (-p)) (mkM (-(cutQ (-(dq n f)) p)) (-p)) (mkE (-(cutQ (-(dq n f)) p)) (-p)) = true := by
  rw [inB_iff, dq_mk h1, dq_mk h2]
  refine ⟨cut_lo _ _, ?_⟩
  have h := cut_lo (-(dq n f)) p
  rw [dq_neg, Rat.le_neg_iff]
  exact h
theorem out_fits {m e n f p : Int} (lm : zl m ≤ 6) (ln : zl n ≤ 6) (he : -60 ≤ e ∧ e ≤ 252) (hf : -60 ≤ f ∧ f ≤ 252) (hp : permB p = true) : mkR (cutQ (dq m e) p) (-p) = 0 ∧ mkR (-(cutQ (-(dq n f)) p)) (-p) = 0 := by
  obtain ⟨p1, p2⟩ := perm_yes hp
  have z1 := zl_cutD m e p
  have z2 := zl_neg n
  have z3 := zl_cutD (-n) f p
  rw [dq_neg] at z3
  have z4 := zl_neg (cutQ (-(dq n f)) p)
  exact ⟨mk_fits2 (by omega) (by omega) (by omega), mk_fits2 (by omega) (by omega) (by omega)⟩


end Go.Proofs.YtgcmdlannbobgaaDoor
