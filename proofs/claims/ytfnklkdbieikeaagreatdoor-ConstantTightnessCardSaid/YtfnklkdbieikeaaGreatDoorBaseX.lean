/- Base texts, joined: IvMath3, ArMath2, RefArA, ArRow, RefArB, RefArC, ArQ, ArSure. -/
import Derived.Test.YtfnklkdbieikeaaGreatDoorBaseV
import Derived.Test.YtfnklkdbieikeaaGreatDoorBaseM
import Derived.Test.YtfnklkdbieikeaaGreatDoorGrPA
import Derived.Test.YtfnklkdbieikeaaGreatDoorRefGrA
import Derived.Test.YtfnklkdbieikeaaGreatDoorBaseE
import Derived.Test.YtfnklkdbieikeaaGreatDoorBaseW
import Derived.Test.YtfnklkdbieikeaaGreatDoorRefGrB
import Derived.Deep.RegionHeld3
import Derived.Deep.DrawnRows
import Derived.Test.YtfnklkdbieikeaaGreatDoorBaseD
import Derived.Test.YtfnklkdbieikeaaGreatDoorBaseF
import Derived.Deep.Cut
import Derived.Deep.CutRange
/- Middles, widths and outward rounding, as fractions. -/
namespace Go.Proofs.YtfnklkdbieikeaaGreatDoor
open Go.RowKit
set_option linter.unusedVariables false
set_option linter.unusedSimpArgs false
set_option maxRecDepth 100000
attribute [local go_sem ↓] Go.wp_at_zero Go.wp_at_succ

theorem mk_fits2 {m e : Int} (h : zl m ≤ 1900) (h1 : -60000 ≤ e) (h2 : e ≤ 4000) : mkR m e = 0 := by
  unfold mkR
  rw [if_neg (by omega)]
  by_cases h0 : m = 0
  · rw [if_pos h0]
  · rw [if_neg h0]
    have ht := tz_le8 m.natAbs (by omega)
    have e1 : zl m = len m.natAbs := rfl
    have hb : blen (oddM m).natAbs ≤ 65536 := by
      have := blen_le_len (oddM m).natAbs
      have h3 := zl_odd m
      have e2 : zl (oddM m) = len (oddM m).natAbs := rfl
      omega
    have ho : bitB (oddM m).natAbs 0 = true := by
      obtain ⟨k, hk⟩ := tz_form (x := m.natAbs) (by omega)
      have hd : m.natAbs / 2 ^ tz m.natAbs = 2 * k + 1 := by
        have := Nat.mul_div_cancel_left (2 * k + 1) (Nat.pow_pos (n := tz m.natAbs) (show 0 < 2 by omega))
        rwa [← hk] at this
      unfold bitB
      rw [oddM_abs, hd, Nat.pow_zero, Nat.div_one]
      exact decide_eq_true (by omega)
    have hf : fits8 (oddM m) (oddE m e) = true := by
      unfold fits8 oddE
      rw [decide_eq_true hb, decide_eq_true (by omega), decide_eq_true (by omega), ho]
      rfl
    rw [hf]
    rfl
theorem dq_dbl (C E : Int) : dq C (E + -1) + dq C (E + -1) = dq C E := by
  have h : dq (C + C) (E + -1) = dq C E := dq_eq (F := E + -1) (by rw [show E + -1 - (E + -1) = 0 by omega, show E - (E + -1) = 1 by omega]; show (C + C) * 1 = C * 2; omega) (by omega) (by omega)
  rw [← h, dq_scale, dq_scale (C + C), Rat.intCast_add, Rat.add_mul]
theorem mid_half {x y z : Rat} (h : z + z = x + y) (hxy : x ≤ y) : x ≤ z ∧ z ≤ y := by
  constructor
  · rw [← Rat.not_lt]
    intro hz
    have h1 : z + z < z + x := (Rat.add_lt_add_left (c := z)).2 hz
    have h2 : z + x < x + x := (Rat.add_lt_add_right (c := x)).2 hz
    have h3 : x + x ≤ x + y := (Rat.add_le_add_left (c := x)).2 hxy
    rw [h] at h1
    exact Rat.not_le.2 (rle_lt (rle_lt h1 (Rat.le_of_lt h2)) h3) Rat.le_refl
  · rw [← Rat.not_lt]
    intro hz
    have h1 : y + y < y + z := (Rat.add_lt_add_left (c := y)).2 hz
    have h2 : y + z < z + z := (Rat.add_lt_add_right (c := z)).2 hz
    have h3 : x + y ≤ y + y := (Rat.add_le_add_right (c := y)).2 hxy
    rw [h] at h2
    exact Rat.not_le.2 (rle_lt (rle_lt h1 (Rat.le_of_lt h2)) h3) Rat.le_refl
def midM (m e n f : Int) : Int := mkM (mkM (addS m e n f) (min e f)) (mkE (addS m e n f) (min e f) + -1)
def midE (m e n f : Int) : Int := mkE (mkM (addS m e n f) (min e f)) (mkE (addS m e n f) (min e f) + -1)
/-- What the middle of a short interval is. -/
theorem mid_ok {m e n f : Int} (lm : zl m ≤ 6) (ln : zl n ≤ 6) (he : -60 ≤ e ∧ e ≤ 252) (hf : -60 ≤ f ∧ f ≤ 252) (hle : dcm m e n f ≤ 0) :
    zl (addS m e n f) ≤ 40 ∧ mkR (addS m e n f) (min e f) = 0 ∧ mkR (mkM (addS m e n f) (min e f)) (mkE (addS m e n f) (min e f) + -1) = 0 ∧ Dv (midM m e n f) (midE m e n f) ∧ zl (midM m e n f) ≤ 40 ∧ (-1600 ≤ midE m e n f ∧ midE m e n f ≤ 2880) ∧ dq (midM m e n f) (midE m e n f) + dq (midM m e n f) (midE m e n f) = dq m e + dq n f ∧ dq m e ≤ dq (midM m e n f) (midE m e n f) ∧ dq (midM m e n f) (midE m e n f) ≤ dq n f := by
  have z0 := zl_addS m e n f 252 (by omega) (by omega)
  have r0 := mk_fits (m := addS m e n f) (e := min e f) (by omega) (by omega) (by omega)
  have z1 := zl_mk (addS m e n f) (min e f)
  have b1 := mkE_le (m := addS m e n f) (e := min e f) (K := 252) (by omega) (by omega)
  have d1 := dq_mk r0
  rw [dq_add] at d1
  have zz : zl (addS m e n f) ≤ 40 := by omega
  have r1 := mk_fits (m := mkM (addS m e n f) (min e f)) (e := mkE (addS m e n f) (min e f) + -1) (by omega) (by omega) (by omega)
  have z2 := zl_mk (mkM (addS m e n f) (min e f)) (mkE (addS m e n f) (min e f) + -1)
  have b2 := mkE_le (m := mkM (addS m e n f) (min e f)) (e := mkE (addS m e n f) (min e f) + -1) (K := 1600) (by omega) (by omega)
  have d2 := dq_mk r1
  have d3 := dq_dbl (mkM (addS m e n f) (min e f)) (mkE (addS m e n f) (min e f))
  have v := mk_ok r1
  have hs : dq (midM m e n f) (midE m e n f) + dq (midM m e n f) (midE m e n f) = dq m e + dq n f := by
    rw [show dq (midM m e n f) (midE m e n f) = dq (mkM (addS m e n f) (min e f)) (mkE (addS m e n f) (min e f) + -1) from d2, d3, d1]
  have hh := mid_half hs ((dcm_le _ _ _ _).1 hle)
  refine ⟨zz, r0, r1, v, ?_, ⟨?_, ?_⟩, hs, hh.1, hh.2⟩
  · unfold midM; omega
  · unfold midE; omega
  · unfold midE; omega
/-- What the width of a short interval is. -/
theorem width_ok {m e n f : Int} (lm : zl m ≤ 50) (ln : zl n ≤ 50) (he : -3000 ≤ e ∧ e ≤ 3000) (hf : -3000 ≤ f ∧ f ≤ 3000) : mkR (addS n f (-m) e) (min f e) = 0 ∧ Dv (mkM (addS n f (-m) e) (min f e)) (mkE (addS n f (-m) e) (min f e)) ∧ dq (mkM (addS n f (-m) e) (min f e)) (mkE (addS n f (-m) e) (min f e)) = dq n f - dq m e ∧ zl (mkM (addS n f (-m) e) (min f e)) ≤ 400 ∧ (-20000 ≤ mkE (addS n f (-m) e) (min f e) ∧ mkE (addS n f (-m) e) (min f e) ≤ 20000) := by
  have z0 := zl_addS n f (-m) e 3000 (by omega) (by omega)
  have zn := zl_neg m
  have r0 := mk_fits (m := addS n f (-m) e) (e := min f e) (by omega) (by omega) (by omega)
  have z1 := zl_mk (addS n f (-m) e) (min f e)
  have b1 := mkE_le (m := addS n f (-m) e) (e := min f e) (K := 3000) (by omega) (by omega)
  have d1 := dq_mk r0
  rw [dq_add, dq_neg, ← Rat.sub_eq_add_neg] at d1
  exact ⟨r0, mk_ok r0, d1, by omega, by omega⟩
/-- Both halves of an interval are equally wide. -/
theorem half_w {m e n f M E : Int} (lm : zl m ≤ 6) (ln : zl n ≤ 6) (lM : zl M ≤ 40) (he : -60 ≤ e ∧ e ≤ 252) (hf : -60 ≤ f ∧ f ≤ 252) (hE : -1600 ≤ E ∧ E ≤ 2880) (hs : dq M E + dq M E = dq m e + dq n f) :
    mkM (addS M E (-m) e) (min E e) = mkM (addS n f (-M) E) (min f E) ∧ mkE (addS M E (-m) e) (min E e) = mkE (addS n f (-M) E) (min f E) := by
  have a := width_ok (m := m) (e := e) (n := M) (f := E) (by omega) (by omega) (by omega) (by omega)
  have b := width_ok (m := M) (e := E) (n := n) (f := f) (by omega) (by omega) (by omega) (by omega)
  refine dv_uniq a.2.1 b.2.1 ?_
  rw [a.2.2.1, b.2.2.1]
  have h2 : dq M E = (dq m e + dq n f) - dq M E := by
    rw [← hs, Rat.add_sub_cancel]
  have h3 : dq M E - dq m e = ((dq m e + dq n f) - dq M E) - dq m e := by rw [← h2]
  rw [h3, Rat.sub_eq_add_neg, Rat.sub_eq_add_neg, Rat.sub_eq_add_neg, Rat.add_comm (dq m e) (dq n f), Rat.add_assoc, Rat.add_assoc]
  congr 1
  rw [Rat.add_comm (-dq M E), ← Rat.add_assoc, Rat.add_neg_cancel, Rat.zero_add]
theorem gst_hi {m e M E : Int} (h1 : Dv m e) (h2 : Dv M E) (h : dq m e ≤ dq M E) : gstD m e M E = (M, E) := by
  have h0 := (dcm_le _ _ _ _).2 h
  unfold gstD
  split
  · rename_i h3
    obtain ⟨r1, r2⟩ := (dcm_eq h1 h2).1 (by omega)
    rw [r1, r2]
  · rfl
theorem lst_lo {m e M E : Int} (h : dq m e ≤ dq M E) : lstD m e M E = (m, e) := by
  unfold lstD
  rw [if_pos ((dcm_le _ _ _ _).2 h)]
/-- Rounding outwards. -/
theorem out_in {m e n f p : Int} (h1 : mkR (cutQ (dq m e) p) (-p) = 0) (h2 : mkR (-(cutQ (-(dq n f)) p)) (-p) = 0) :
    inB m e n f (mkM (cutQ (dq m e) p) (-p)) (mkE (cutQ (dq m e) p) (-p)) (mkM (-(cutQ (-(dq n f)) p)) (-p)) (mkE (-(cutQ (-(dq n f)) p)) (-p)) = true := by
  rw [inB_iff, dq_mk h1, dq_mk h2]
  refine ⟨cut_lo _ _, ?_⟩
  have h := cut_lo (-(dq n f)) p
  rw [dq_neg, Rat.le_neg_iff]
  exact h
theorem out_fits {m e n f p : Int} (lm : zl m ≤ 6) (ln : zl n ≤ 6) (he : -60 ≤ e ∧ e ≤ 252) (hf : -60 ≤ f ∧ f ≤ 252) (hp : permB p = true) : mkR (cutQ (dq m e) p) (-p) = 0 ∧ mkR (-(cutQ (-(dq n f)) p)) (-p) = 0 := by
  obtain ⟨p1, p2⟩ := perm_yes hp
  have z1 := zl_cutD m e p
  have z2 := zl_neg n
  have z3 := zl_cutD (-n) f p
  rw [dq_neg] at z3
  have z4 := zl_neg (cutQ (-(dq n f)) p)
  exact ⟨mk_fits2 (by omega) (by omega) (by omega), mk_fits2 (by omega) (by omega) (by omega)⟩


end Go.Proofs.YtfnklkdbieikeaaGreatDoor


/- Enclosures: the floor of the lower end and the ceiling of the upper one. -/
namespace Go.Proofs.YtfnklkdbieikeaaGreatDoor
open Go.RowKit
set_option linter.unusedVariables false
set_option linter.unusedSimpArgs false
set_option maxRecDepth 100000
attribute [local go_sem ↓] Go.wp_at_zero Go.wp_at_succ

/-- The floor of a fraction on the grid of k, as Make returns it; the ceiling. -/
def enM (q : Rat) (k : Int) : Int := mkM (cutQ q k) (-k)
def enE (q : Rat) (k : Int) : Int := mkE (cutQ q k) (-k)
def upM (q : Rat) (k : Int) : Int := mkM (-(cutQ (-q) k)) (-k)
def upE (q : Rat) (k : Int) : Int := mkE (-(cutQ (-q) k)) (-k)
def enF (q : Rat) (k : Int) : Prop := mkR (cutQ q k) (-k) = 0
def upF (q : Rat) (k : Int) : Prop := mkR (-(cutQ (-q) k)) (-k) = 0
theorem en_lo {q : Rat} {k : Int} (h : enF q k) : dq (enM q k) (enE q k) ≤ q := by
  unfold enM enE
  rw [dq_mk h]
  exact cut_lo q k
theorem up_hi {q : Rat} {k : Int} (h : upF q k) : q ≤ dq (upM q k) (upE q k) := by
  unfold upM upE
  rw [dq_mk h, dq_neg, Rat.le_neg_iff]
  exact cut_lo (-q) k
theorem cut_mono {q q' : Rat} {k k' : Int} (hk : k ≤ k') (hq : q ≤ q') : dq (cutQ q k) (-k) ≤ dq (cutQ q' k') (-k') := by
  have e1 : dq (cutQ q k) (-k) = dq (cutQ q k * 2 ^ (k' - k).toNat) (-k') := dq_eq (F := -k') (by rw [show -k' - -k' = 0 by omega, show -k - -k' = k' - k by omega]; simp) (by omega) (by omega)
  have h1 := Rat.le_trans (cut_lo q k) hq
  rw [e1] at h1 ⊢
  have h2 := rlt_le h1 (cut_hi q' k')
  rw [← dq_succ, dq_scale, dq_scale (cutQ q' k' + 1)] at h2
  have h3 := Rat.intCast_lt_intCast.1 (Rat.lt_of_mul_lt_mul_right h2 (Rat.le_of_lt (dq_pos (-k'))))
  rw [dq_le_iff]
  omega
theorem en_mono {q q' : Rat} {k k' : Int} (hk : k ≤ k') (hq : q ≤ q') (h : enF q k) (h' : enF q' k') : dq (enM q k) (enE q k) ≤ dq (enM q' k') (enE q' k') := by
  unfold enM enE
  rw [dq_mk h, dq_mk h']
  exact cut_mono hk hq
theorem up_mono {q q' : Rat} {k k' : Int} (hk : k ≤ k') (hq : q' ≤ q) (h : upF q k) (h' : upF q' k') : dq (upM q' k') (upE q' k') ≤ dq (upM q k) (upE q k) := by
  unfold upM upE
  rw [dq_mk h, dq_mk h', dq_neg, dq_neg]
  exact Rat.neg_le_neg (cut_mono hk (Rat.neg_le_neg hq))
theorem blen_odd {m : Int} (h : m ≠ 0) : blen m.natAbs = blen (oddM m).natAbs + tz m.natAbs := by
  have h1 := odd_form m
  have h2 : m.natAbs = 0 + 2 ^ tz m.natAbs * (oddM m).natAbs := by
    have := congrArg Int.natAbs h1
    rw [abs_shl] at this
    rw [Nat.zero_add, Nat.mul_comm]
    exact this.symm
  have h3 := blen_high (lo := 0) (top := (oddM m).natAbs) (k := tz m.natAbs) (Nat.pow_pos (by omega)) (oddM_pos h)
  rw [← h2] at h3
  omega
theorem top_mk {m e : Int} (h : mkR m e = 0) (hm : m ≠ 0) : topZ (mkM m e) (mkE m e) = (blen m.natAbs : Int) + e := by
  have h1 : mkM m e = oddM m := by unfold mkM; rw [if_pos h]
  have h2 : mkE m e = oddE m e := by unfold mkE; rw [if_neg hm, if_pos h]
  have h3 := oddM_pos hm
  rw [h1, h2]
  unfold topZ oddE
  rw [if_neg (by omega), blen_odd hm]
  omega
/-- The enclosure of a fraction that is short enough is small. -/
theorem mk_small {C : Int} {k : Int} {z : Nat} (hz : zl C ≤ z + (k.toNat / 32 + 1)) (h60 : z ≤ 60) (hk : 0 ≤ k ∧ k ≤ 4096) : mkR C (-k) = 0 ∧ topZ (mkM C (-k)) (mkE C (-k)) ≤ 2048 ∧ onB (mkM C (-k)) (mkE C (-k)) 8192 = true := by
  have hr : mkR C (-k) = 0 := mk_fits2 (by omega) (by omega) (by omega)
  refine ⟨hr, ?_, ?_⟩
  · by_cases h0 : C = 0
    · subst h0
      have h1 : mkM 0 (-k) = 0 := by unfold mkM; rw [if_pos hr, oddM_zero]
      rw [h1]
      unfold topZ
      rw [if_pos rfl]
      omega
    · rw [top_mk hr h0]
      have h1 := blen_le_len C.natAbs
      have e1 : zl C = len C.natAbs := rfl
      omega
  · unfold onB
    rw [show permB 8192 = true from by decide, Bool.true_and]
    by_cases h0 : C = 0
    · have h1 : mkM C (-k) = 0 := by subst h0; unfold mkM; rw [if_pos hr, oddM_zero]
      rw [h1, decide_eq_true rfl, Bool.true_or]
    · have h2 : mkE C (-k) = oddE C (-k) := by unfold mkE; rw [if_neg h0, if_pos hr]
      rw [h2]
      unfold oddE
      rw [decide_eq_true (show -8192 ≤ -k + (tz C.natAbs : Int) by omega), Bool.or_true]


end Go.Proofs.YtfnklkdbieikeaaGreatDoor


/- The reference's Work, Small, ends. -/
namespace Go.Proofs.YtfnklkdbieikeaaGreatDoor
open Go.RowKit
set_option linter.unusedVariables false
set_option linter.unusedSimpArgs false
set_option maxRecDepth 100000
attribute [local go_sem ↓] Go.wp_at_zero Go.wp_at_succ

/-- Which working precisions are permitted; which intervals of valid ends are small. -/
def workB (k : Int) : Bool := decide (0 ≤ k) && decide (k ≤ 4096)
def smallB (m e n f : Int) : Bool := decide (dcm m e n f ≤ 0) && (decide (topZ m e ≤ 2048) && (decide (topZ n f ≤ 2048) && (onB m e 8192 && onB n f 8192)))

end Go.Proofs.YtfnklkdbieikeaaGreatDoor


/- Rows of fractions; two new variables with fractions, and where they lie. -/
namespace Go.Proofs.YtfnklkdbieikeaaGreatDoor
open Go.RowKit
set_option linter.unusedVariables false
set_option linter.unusedSimpArgs false
set_option maxRecDepth 100000
attribute [local go_sem ↓] Go.wp_at_zero Go.wp_at_succ

/-- A slice of fractions: what its elements stand for. -/
def RowR (w : World) (v : Value) (l : List (Int × Nat)) : Prop := ∃ g c, v = .slice (some ⟨g, 0, none⟩) l.length c ∧ g < w.heap.size ∧ ∀ (j : Nat) (p : Int × Nat), l[j]? = some p → ∃ A c B k, w.cell? ⟨g, 3 * j, none⟩ = some (.bool (ng p.1)) ∧ w.cell? ⟨g, 3 * j + 1, none⟩ = some (.slice A (zl p.1) c) ∧ w.cell? ⟨g, 3 * j + 2, none⟩ = some (.slice B (len p.2) k) ∧ IsP w (.agg #[.bool (ng p.1), .slice A (zl p.1) c, .slice B (len p.2) k]) p.1 p.2
theorem RowR.mono {w w' : World} {v : Value} {l : List (Int × Nat)} (h : RowR w v l) (hb : Below w.heap.size w w') : RowR w' v l := by
  obtain ⟨g, c, r, hg, h⟩ := h
  refine ⟨g, c, r, Nat.lt_of_lt_of_le hg hb.size, fun j p hp => ?_⟩
  obtain ⟨A, c, B, k, h1, h2, h3, h4⟩ := h j p hp
  exact ⟨A, c, B, k, (hb.cell (p := ⟨g, 3 * j, none⟩) hg).trans h1, (hb.cell (p := ⟨g, 3 * j + 1, none⟩) hg).trans h2, (hb.cell (p := ⟨g, 3 * j + 2, none⟩) hg).trans h3, h4.mono hb⟩
def qOf (p : Int × Nat) : Rat := Rat.divInt p.1 (p.2 : Int)
/-- Two new variables, each with its fraction, and where they lie. -/
def Made2R (w0 : World) (a1 : Int) (d1 : Nat) (a2 : Int) (d2 : Nat) (s1 s2 : Value) (w' : World) : Prop := ∃ g1 g2 A1 B1 c1 k1 A2 B2 c2 k2, s1 = (.pointer (some ⟨g1, 0, none⟩)) ∧ s2 = (.pointer (some ⟨g2, 0, none⟩)) ∧ w0.heap.size ≤ g1 ∧ w0.heap.size ≤ g2 ∧ g1 ≠ g2 ∧ Below w0.heap.size w0 w' ∧ Var w' g1 121 #[.bool (ng a1), .slice A1 (zl a1) c1, .slice B1 (len d1) k1] ∧ Var w' g2 121 #[.bool (ng a2), .slice A2 (zl a2) c2, .slice B2 (len d2) k2] ∧ IsP w' (.agg #[.bool (ng a1), .slice A1 (zl a1) c1, .slice B1 (len d1) k1]) a1 d1 ∧ IsP w' (.agg #[.bool (ng a2), .slice A2 (zl a2) c2, .slice B2 (len d2) k2]) a2 d2
section
variable {w0 w : World} {ns : List (Value × Nat)} {zs : List (Value × Int)} {qs : List (Value × Int × Nat)} {a1 a2 : Int} {d1 d2 : Nat} {A1 A2 B1 B2 : Option Addr} {c1 c2 k1 k2 : Nat}
theorem made2r_of {w' : World} {g1 g2 : Nat} (D : Dq w0 w' ns zs qs [(g1, 121, #[.bool (ng a1), .slice A1 (zl a1) c1, .slice B1 (len d1) k1]), (g2, 121, #[.bool (ng a2), .slice A2 (zl a2) c2, .slice B2 (len d2) k2])]) (h1 : (.agg #[.bool (ng a1), .slice A1 (zl a1) c1, .slice B1 (len d1) k1], a1, d1) ∈ qs) (h2 : (.agg #[.bool (ng a2), .slice A2 (zl a2) c2, .slice B2 (len d2) k2], a2, d2) ∈ qs) : Made2R w0 a1 d1 a2 d2 (.pointer (some ⟨g1, 0, none⟩)) (.pointer (some ⟨g2, 0, none⟩)) w' :=
  ⟨g1, g2, A1, B1, c1, k1, A2, B2, c2, k2, rfl, rfl, D.ge _ (List.mem_cons_self ..), D.swap.ge _ (List.mem_cons_self ..), D.n01.1, D.lq.below, D.lq.b0, D.lq.tl.b0, D.getQ h1, D.getQ h2⟩
theorem made2r_a (D : Dq w0 w ns zs qs []) (h1 : (.agg #[.bool (ng a1), .slice A1 (zl a1) c1, .slice B1 (len d1) k1], a1, d1) ∈ qs) (h2 : (.agg #[.bool (ng a2), .slice A2 (zl a2) c2, .slice B2 (len d2) k2], a2, d2) ∈ qs) : Made2R w0 a1 d1 a2 d2 (.pointer (some ⟨w.heap.size, 0, none⟩)) (.pointer (some ⟨w.heap.size + 1, 0, none⟩)) ((w.alloc (.cells #[.bool (ng a1), .slice A1 (zl a1) c1, .slice B1 (len d1) k1] 121)).alloc (.cells #[.bool (ng a2), .slice A2 (zl a2) c2, .slice B2 (len d2) k2] 121)) :=
  made2r_of (D.box2 _ _ _ _ _ _ _ _ _ _ _ _ _ _).swap h1 h2
theorem made2r_b (D : Dq w0 w ns zs qs []) (h1 : (.agg #[.bool (ng a1), .slice A1 (zl a1) c1, .slice B1 (len d1) k1], a1, d1) ∈ qs) (h2 : (.agg #[.bool (ng a2), .slice A2 (zl a2) c2, .slice B2 (len d2) k2], a2, d2) ∈ qs) : Made2R w0 a1 d1 a2 d2 (.pointer (some ⟨w.heap.size + 1, 0, none⟩)) (.pointer (some ⟨w.heap.size, 0, none⟩)) ((w.alloc (.cells #[.bool (ng a2), .slice A2 (zl a2) c2, .slice B2 (len d2) k2] 121)).alloc (.cells #[.bool (ng a1), .slice A1 (zl a1) c1, .slice B1 (len d1) k1] 121)) :=
  made2r_of (D.box2 _ _ _ _ _ _ _ _ _ _ _ _ _ _) h1 h2
theorem made2r_e {g k : Nat} {b b' : Bool} {s u s' u' : Value} (D : Dq w0 w ns zs qs [(k, 121, #[.bool b', s', u']), (g, 121, #[.bool b, s, u])]) (h1 : (.agg #[.bool (ng a1), .slice A1 (zl a1) c1, .slice B1 (len d1) k1], a1, d1) ∈ qs) (h2 : (.agg #[.bool (ng a2), .slice A2 (zl a2) c2, .slice B2 (len d2) k2], a2, d2) ∈ qs) : Made2R w0 a1 d1 a2 d2 (.pointer (some ⟨g, 0, none⟩)) (.pointer (some ⟨k, 0, none⟩)) ((((((w.setCell ⟨g, 0, none⟩ (.bool (ng a1))).setCell ⟨g, 1, none⟩ (.slice A1 (zl a1) c1)).setCell ⟨g, 2, none⟩ (.slice B1 (len d1) k1)).setCell ⟨k, 0, none⟩ (.bool (ng a2))).setCell ⟨k, 1, none⟩ (.slice A2 (zl a2) c2)).setCell ⟨k, 2, none⟩ (.slice B2 (len d2) k2)) :=
  made2r_of ((D.swap.put g (ng a1) A1 B1 (zl a1) c1 (len d1) k1).swap.put k (ng a2) A2 B2 (zl a2) c2 (len d2) k2).swap h1 h2
theorem made2r_f {g k : Nat} {b b' : Bool} {s u s' u' : Value} (D : Dq w0 w ns zs qs [(g, 121, #[.bool b, s, u]), (k, 121, #[.bool b', s', u'])]) (h1 : (.agg #[.bool (ng a1), .slice A1 (zl a1) c1, .slice B1 (len d1) k1], a1, d1) ∈ qs) (h2 : (.agg #[.bool (ng a2), .slice A2 (zl a2) c2, .slice B2 (len d2) k2], a2, d2) ∈ qs) : Made2R w0 a1 d1 a2 d2 (.pointer (some ⟨g, 0, none⟩)) (.pointer (some ⟨k, 0, none⟩)) ((((((w.setCell ⟨g, 0, none⟩ (.bool (ng a1))).setCell ⟨g, 1, none⟩ (.slice A1 (zl a1) c1)).setCell ⟨g, 2, none⟩ (.slice B1 (len d1) k1)).setCell ⟨k, 0, none⟩ (.bool (ng a2))).setCell ⟨k, 1, none⟩ (.slice A2 (zl a2) c2)).setCell ⟨k, 2, none⟩ (.slice B2 (len d2) k2)) :=
  made2r_of ((D.put g (ng a1) A1 B1 (zl a1) c1 (len d1) k1).swap.put k (ng a2) A2 B2 (zl a2) c2 (len d2) k2).swap h1 h2
end
/-- What Enclose returns of the least and the greatest of some fractions. -/
def enB (lo hi : Rat) (k : Int) : Bool := smallB (enM lo k) (enE lo k) (upM hi k) (upE hi k)
def RetEn (w : World) (lo hi : Rat) (k : Int) : Ending → World → Prop := if workB k then (if mkR (cutQ lo k) (-k) = 0 ∧ mkR (-(cutQ (-hi) k)) (-k) = 0 ∧ enB lo hi k = true then RetIE w (enM lo k) (enE lo k) (upM hi k) (upE hi k) 0 else RetIE w 0 0 0 0 3) else RetIE w 0 0 0 0 1
def IsLeast (x : Rat) (l : List (Int × Nat)) : Prop := (∃ p ∈ l, qOf p = x) ∧ ∀ p ∈ l, x ≤ qOf p
def IsMost (x : Rat) (l : List (Int × Nat)) : Prop := (∃ p ∈ l, qOf p = x) ∧ ∀ p ∈ l, qOf p ≤ x
theorem cmpI_ltq {a b : Int} {d e : Nat} (hd : 0 < d) (he : 0 < e) : cmpI (a * (e : Int)) (b * (d : Int)) < 0 ↔ Rat.divInt a (d : Int) < Rat.divInt b (e : Int) := by
  rw [← Rat.not_le, divInt_le (by omega) (by omega)]
  unfold cmpI
  generalize a * (e : Int) = x
  generalize b * (d : Int) = y
  (repeat' split) <;> omega
theorem cmpI_gtq {a b : Int} {d e : Nat} (hd : 0 < d) (he : 0 < e) : 0 < cmpI (a * (e : Int)) (b * (d : Int)) ↔ Rat.divInt b (e : Int) < Rat.divInt a (d : Int) := by
  rw [← Rat.not_le, divInt_le (by omega) (by omega)]
  unfold cmpI
  generalize a * (e : Int) = x
  generalize b * (d : Int) = y
  (repeat' split) <;> omega


end Go.Proofs.YtfnklkdbieikeaaGreatDoor


/- The reference's Enclose: over any row of fractions. -/
namespace Go.Proofs.YtfnklkdbieikeaaGreatDoor
open Go.RowKit
set_option linter.unusedVariables false
set_option linter.unusedSimpArgs false
set_option maxRecDepth 100000
attribute [local go_sem ↓] Go.wp_at_zero Go.wp_at_succ

theorem least_eq {x : Rat} {l : List (Int × Nat)} {p : Int × Nat} (h : IsLeast x l) (hp : p ∈ l) (h2 : ∀ q ∈ l, qOf p ≤ qOf q) : qOf p = x := by
  obtain ⟨⟨q, hq, e⟩, h1⟩ := h
  exact Rat.le_antisymm (by rw [← e]; exact h2 q hq) (h1 p hp)
theorem most_eq {x : Rat} {l : List (Int × Nat)} {p : Int × Nat} (h : IsMost x l) (hp : p ∈ l) (h2 : ∀ q ∈ l, qOf q ≤ qOf p) : qOf p = x := by
  obtain ⟨⟨q, hq, e⟩, h1⟩ := h
  exact Rat.le_antisymm (h1 p hp) (by rw [← e]; exact h2 q hq)
def LoopF (l : List (Int × Nat)) (t : Nat) (a1 : Int) (d1 : Nat) (a2 : Int) (d2 : Nat) : Prop := (a1, d1) ∈ l ∧ (a2, d2) ∈ l ∧ ∀ (j : Nat) (p : Int × Nat), j < t → l[j]? = some p → qOf (a1, d1) ≤ qOf p ∧ qOf p ≤ qOf (a2, d2)
theorem LoopF.step {l : List (Int × Nat)} {t : Nat} {a1 a2 a b1 b2 : Int} {d1 d2 d e1 e2 : Nat} (h : LoopF l t a1 d1 a2 d2) (hp : l[t]? = some (a, d)) (m1 : (b1, e1) ∈ l) (m2 : (b2, e2) ∈ l) (x1 : qOf (b1, e1) ≤ qOf (a1, d1)) (x2 : qOf (b1, e1) ≤ qOf (a, d)) (y1 : qOf (a2, d2) ≤ qOf (b2, e2)) (y2 : qOf (a, d) ≤ qOf (b2, e2)) : LoopF l (t + 1) b1 e1 b2 e2 := by
  refine ⟨m1, m2, fun j p hj hjp => ?_⟩
  rcases Nat.lt_or_ge j t with h1 | h1
  · have := h.2.2 j p h1 hjp
    exact ⟨Rat.le_trans x1 this.1, Rat.le_trans this.2 y1⟩
  · obtain rfl : j = t := by omega
    rw [hp] at hjp
    obtain rfl := Option.some.inj hjp
    exact ⟨x2, y2⟩
theorem LoopF.all {l : List (Int × Nat)} {a1 a2 : Int} {d1 d2 : Nat} {n : Nat} (hn : l.length = n) (h : LoopF l n a1 d1 a2 d2) : (∀ q ∈ l, qOf (a1, d1) ≤ qOf q) ∧ ∀ q ∈ l, qOf q ≤ qOf (a2, d2) := by
  constructor <;> intro q hq <;> obtain ⟨j, hj, e⟩ := List.getElem_of_mem hq
  · exact (h.2.2 j q (by omega) (by rw [← e]; exact List.getElem?_eq_getElem hj)).1
  · exact (h.2.2 j q (by omega) (by rw [← e]; exact List.getElem?_eq_getElem hj)).2
theorem Lq.two {w0 w : World} {ns : List (Value × Nat)} {zs : List (Value × Int)} {qs : List (Value × Int × Nat)} {bs : List (Nat × TypeId × Array Value)} (h : Lq w0 w ns zs qs bs) {p q : Value × Int × Nat} {b c : Nat × TypeId × Array Value} (hp : p ∈ qs) (hq : q ∈ qs) (hb : b ∈ bs) (hc : c ∈ bs) : Lq w0 w [] [] [p, q] [b, c] :=
  ⟨h.below, fun _ x => (by cases x), fun _ x => (by cases x), fun x hx => h.qs x (by simp only [List.mem_cons, List.not_mem_nil, or_false] at hx; rcases hx with rfl | rfl <;> assumption), fun x hx => h.bs x (by simp only [List.mem_cons, List.not_mem_nil, or_false] at hx; rcases hx with rfl | rfl <;> assumption)⟩
theorem Lq.pick {w0 w : World} {ns : List (Value × Nat)} {zs : List (Value × Int)} {qs : List (Value × Int × Nat)} {bs : List (Nat × TypeId × Array Value)} (h : Lq w0 w ns zs qs bs) (l : List (Nat × TypeId × Array Value)) (hl : ∀ x ∈ l, x ∈ bs) : Lq w0 w ns zs qs l := ⟨h.below, h.ns, h.zs, h.qs, fun x hx => h.bs x (hl x hx)⟩
theorem work_perm {k : Int} (h : workB k = true) : permB k = true ∧ 0 ≤ k ∧ k ≤ 4096 := by
  unfold workB at h
  rw [Bool.and_eq_true, decide_eq_true_iff, decide_eq_true_iff] at h
  unfold permB
  rw [decide_eq_true (show -2048 ≤ k by omega), decide_eq_true (show k ≤ 8192 by omega)]
  exact ⟨rfl, h⟩

end Go.Proofs.YtfnklkdbieikeaaGreatDoor


/- The reference's Const. -/
namespace Go.Proofs.YtfnklkdbieikeaaGreatDoor
open Go.RowKit
set_option linter.unusedVariables false
set_option linter.unusedSimpArgs false
set_option maxRecDepth 100000
attribute [local go_sem ↓] Go.wp_at_zero Go.wp_at_succ

theorem RetEn.form {W w' : World} {en : Ending} {lo hi : Rat} {k : Int} (h : RetEn W lo hi k en w') : ∃ v er m e n f, en = .returned (.tuple #[v, .int .i64 er]) ∧ IsI w' v m e n f ∧ Below W.heap.size W w' ∧ ∀ (w0 w2 : World) (u : Value), IsI w2 u m e n f → Below w0.heap.size w0 w2 → RetEn w0 lo hi k (.returned (.tuple #[u, .int .i64 er])) w2 := by
  unfold RetEn at h ⊢
  split at h
  · rename_i h1
    split at h
    · rename_i h2
      obtain ⟨v, r, hi, hb⟩ := h
      exact ⟨v, 0, _, _, _, _, r, hi, hb, fun w0 w2 u h3 h4 => by rw [if_pos h1, if_pos h2]; exact ⟨u, rfl, h3, h4⟩⟩
    · rename_i h2
      obtain ⟨v, r, hi, hb⟩ := h
      exact ⟨v, 3, _, _, _, _, r, hi, hb, fun w0 w2 u h3 h4 => by rw [if_pos h1, if_neg h2]; exact ⟨u, rfl, h3, h4⟩⟩
  · rename_i h1
    obtain ⟨v, r, hi, hb⟩ := h
    exact ⟨v, 1, _, _, _, _, r, hi, hb, fun w0 w2 u h3 h4 => by rw [if_neg h1]; exact ⟨u, rfl, h3, h4⟩⟩
theorem rowR_1 {w : World} {g : Nat} {a : Int} {d c k : Nat} {A B : Option Addr} (hv : Var w g 121 #[.bool (ng a), .slice A (zl a) c, .slice B (len d) k]) (hq : IsP w (.agg #[.bool (ng a), .slice A (zl a) c, .slice B (len d) k]) a d) : RowR w (.slice (some ⟨g, 0, none⟩) 1 1) [(a, d)] := by
  refine ⟨g, 1, rfl, hv.lt, fun j p hp => ?_⟩
  match j with
  | 0 =>
    obtain rfl : (a, d) = p := by simpa using hp
    exact ⟨A, c, B, k, hv.cell 0, hv.cell 1, hv.cell 2, hq⟩
  | j + 1 => simp at hp
theorem rowR_2 {w : World} {g : Nat} {a b : Int} {d q c k c' k' : Nat} {A B A' B' : Option Addr} (hv : Var w g 121 #[.bool (ng a), .slice A (zl a) c, .slice B (len d) k, .bool (ng b), .slice A' (zl b) c', .slice B' (len q) k']) (hq : IsP w (.agg #[.bool (ng a), .slice A (zl a) c, .slice B (len d) k]) a d) (hq2 : IsP w (.agg #[.bool (ng b), .slice A' (zl b) c', .slice B' (len q) k']) b q) : RowR w (.slice (some ⟨g, 0, none⟩) 2 2) [(a, d), (b, q)] := by
  refine ⟨g, 2, rfl, hv.lt, fun j p hp => ?_⟩
  match j with
  | 0 =>
    obtain rfl : (a, d) = p := by simpa using hp
    exact ⟨A, c, B, k, hv.cell 0, hv.cell 1, hv.cell 2, hq⟩
  | 1 =>
    obtain rfl : (b, q) = p := by simpa using hp
    exact ⟨A', c', B', k', hv.cell 3, hv.cell 4, hv.cell 5, hq2⟩
  | j + 2 => simp at hp
theorem least_1 (p : Int × Nat) : IsLeast (qOf p) [p] := ⟨⟨p, by simp, rfl⟩, fun q hq => by rw [List.mem_singleton] at hq; rw [hq]; exact Rat.le_refl⟩
theorem most_1 (p : Int × Nat) : IsMost (qOf p) [p] := ⟨⟨p, by simp, rfl⟩, fun q hq => by rw [List.mem_singleton] at hq; rw [hq]; exact Rat.le_refl⟩

end Go.Proofs.YtfnklkdbieikeaaGreatDoor


/- The images of the operations: which of two or four fractions are the least and the greatest. -/
namespace Go.Proofs.YtfnklkdbieikeaaGreatDoor
open Go.RowKit
set_option linter.unusedVariables false
set_option linter.unusedSimpArgs false
set_option maxRecDepth 100000
attribute [local go_sem ↓] Go.wp_at_zero Go.wp_at_succ

theorem qOf_num (q : Rat) : qOf (q.num, q.den) = q := by
  unfold qOf
  exact Rat.num_divInt_den q
theorem qOf_dq (m e : Int) : qOf (m * 2 ^ e.toNat, 2 ^ (-e).toNat) = dq m e := rfl
theorem q_mul (a b : Int) (d e : Nat) : Rat.divInt (a * b) ((d : Int) * (e : Int)) = qOf (a, d) * qOf (b, e) := by
  unfold qOf
  rw [Rat.divInt_mul_divInt]
theorem q_add {a b : Int} {d e : Nat} (hd : 0 < d) (he : 0 < e) : Rat.divInt (a * (e : Int) + b * (d : Int)) ((d : Int) * (e : Int)) = qOf (a, d) + qOf (b, e) := by
  unfold qOf
  rw [Rat.divInt_add_divInt _ _ (by omega) (by omega)]
theorem q_neg (a : Int) (d : Nat) : qOf (-a, d) = -qOf (a, d) := by
  unfold qOf
  rw [Rat.neg_divInt]
theorem q_sub {a b : Int} {d e : Nat} (hd : 0 < d) (he : 0 < e) : Rat.divInt (a * (e : Int) + -b * (d : Int)) ((d : Int) * (e : Int)) = qOf (a, d) - qOf (b, e) := by
  rw [q_add hd he, q_neg, Rat.sub_eq_add_neg]
theorem q_div {a b : Int} {d e : Nat} (_hd : 0 < d) (_he : 0 < e) (_hb : b ≠ 0) : Rat.divInt (a * (e : Int)) ((d : Int) * b) = qOf (a, d) / qOf (b, e) := by
  unfold qOf
  rw [Rat.div_def, Rat.inv_divInt, Rat.divInt_mul_divInt]
theorem least_2 {p q : Int × Nat} (h : qOf p ≤ qOf q) : IsLeast (qOf p) [p, q] := ⟨⟨p, by simp, rfl⟩, fun r hr => by
  simp only [List.mem_cons, List.not_mem_nil, or_false] at hr
  rcases hr with rfl | rfl
  · exact Rat.le_refl
  · exact h⟩
theorem most_2 {p q : Int × Nat} (h : qOf p ≤ qOf q) : IsMost (qOf q) [p, q] := ⟨⟨q, by simp, rfl⟩, fun r hr => by
  simp only [List.mem_cons, List.not_mem_nil, or_false] at hr
  rcases hr with rfl | rfl
  · exact h
  · exact Rat.le_refl⟩
theorem least_2' {p q : Int × Nat} (h : qOf q ≤ qOf p) : IsLeast (qOf q) [p, q] := ⟨⟨q, by simp, rfl⟩, fun r hr => by
  simp only [List.mem_cons, List.not_mem_nil, or_false] at hr
  rcases hr with rfl | rfl
  · exact h
  · exact Rat.le_refl⟩
theorem most_2' {p q : Int × Nat} (h : qOf q ≤ qOf p) : IsMost (qOf p) [p, q] := ⟨⟨p, by simp, rfl⟩, fun r hr => by
  simp only [List.mem_cons, List.not_mem_nil, or_false] at hr
  rcases hr with rfl | rfl
  · exact Rat.le_refl
  · exact h⟩
theorem min4_or (a b c d : Rat) : min4 a b c d = a ∨ min4 a b c d = b ∨ min4 a b c d = c ∨ min4 a b c d = d := by
  unfold min4
  rcases rmin_or (rmin a b) (rmin c d) with h | h <;> rw [h]
  · rcases rmin_or a b with h | h <;> rw [h] <;> simp
  · rcases rmin_or c d with h | h <;> rw [h] <;> simp
theorem max4_or (a b c d : Rat) : max4 a b c d = a ∨ max4 a b c d = b ∨ max4 a b c d = c ∨ max4 a b c d = d := by
  unfold max4
  rcases rmax_or (rmax a b) (rmax c d) with h | h <;> rw [h]
  · rcases rmax_or a b with h | h <;> rw [h] <;> simp
  · rcases rmax_or c d with h | h <;> rw [h] <;> simp
theorem least_4 (p q r s : Int × Nat) : IsLeast (min4 (qOf p) (qOf q) (qOf r) (qOf s)) [p, q, r, s] := by
  obtain ⟨h1, h2, h3, h4⟩ := min4_le (qOf p) (qOf q) (qOf r) (qOf s)
  refine ⟨?_, fun x hx => ?_⟩
  · rcases min4_or (qOf p) (qOf q) (qOf r) (qOf s) with h | h | h | h <;> rw [h]
    · exact ⟨p, by simp, rfl⟩
    · exact ⟨q, by simp, rfl⟩
    · exact ⟨r, by simp, rfl⟩
    · exact ⟨s, by simp, rfl⟩
  · simp only [List.mem_cons, List.not_mem_nil, or_false] at hx
    rcases hx with rfl | rfl | rfl | rfl <;> assumption
theorem most_4 (p q r s : Int × Nat) : IsMost (max4 (qOf p) (qOf q) (qOf r) (qOf s)) [p, q, r, s] := by
  obtain ⟨h1, h2, h3, h4⟩ := le_max4 (qOf p) (qOf q) (qOf r) (qOf s)
  refine ⟨?_, fun x hx => ?_⟩
  · rcases max4_or (qOf p) (qOf q) (qOf r) (qOf s) with h | h | h | h <;> rw [h]
    · exact ⟨p, by simp, rfl⟩
    · exact ⟨q, by simp, rfl⟩
    · exact ⟨r, by simp, rfl⟩
    · exact ⟨s, by simp, rfl⟩
  · simp only [List.mem_cons, List.not_mem_nil, or_false] at hx
    rcases hx with rfl | rfl | rfl | rfl <;> assumption
/-- The ends of a small interval are short. -/
theorem small_end {m e : Int} (hv : Dv m e) (h1 : topZ m e ≤ 2048) (h2 : onB m e 8192 = true) : zl m ≤ 400 ∧ (-10000 ≤ e ∧ e ≤ 10000) := by
  rcases hv with ⟨rfl, rfl⟩ | ⟨h0, _⟩
  · rw [zl_zero]; omega
  · unfold topZ at h1
    rw [if_neg h0] at h1
    unfold onB at h2
    rw [Bool.and_eq_true, decide_eq_false h0, Bool.false_or, decide_eq_true_iff] at h2
    have hb := blen_pos (x := m.natAbs) (by omega)
    have hl : ∀ K : Nat, 10240 ≤ 32 * K → zl m ≤ K := fun K hK => by
      unfold zl
      refine len_le ?_
      rw [W32_pow]
      exact Nat.lt_of_lt_of_le (lt_two_pow_blen _) (Nat.pow_le_pow_right (by omega) (by omega))
    exact ⟨hl 400 (by omega), by omega, by omega⟩
theorem small_ends {m e n f : Int} (h : smallB m e n f = true) (h1 : Dv m e) (h2 : Dv n f) : (zl m ≤ 400 ∧ (-10000 ≤ e ∧ e ≤ 10000)) ∧ (zl n ≤ 400 ∧ (-10000 ≤ f ∧ f ≤ 10000)) ∧ dcm m e n f ≤ 0 := by
  unfold smallB at h
  rw [Bool.and_eq_true, Bool.and_eq_true, Bool.and_eq_true, Bool.and_eq_true, decide_eq_true_iff, decide_eq_true_iff, decide_eq_true_iff] at h
  obtain ⟨a, b, c, d, e⟩ := h
  exact ⟨small_end h1 b d, small_end h2 c e, a⟩
/-- What an operation returns, whatever it is, are four numbers and an error that only the two ends of the image and the precision decide. -/
theorem RetEn.fix (lo hi : Rat) (k : Int) : ∃ M E N G er : Int, (∀ W, RetEn W lo hi k = RetIE W M E N G er) ∧ (zl M ≤ 400 ∧ (-10000 ≤ E ∧ E ≤ 10000)) ∧ (zl N ≤ 400 ∧ (-10000 ≤ G ∧ G ≤ 10000)) ∧ (er = 0 → workB k = true ∧ mkR (cutQ lo k) (-k) = 0 ∧ mkR (-(cutQ (-hi) k)) (-k) = 0 ∧ M = enM lo k ∧ E = enE lo k ∧ N = upM hi k ∧ G = upE hi k) ∧ Dv M E ∧ Dv N G := by
  have z0 : zl 0 ≤ 400 ∧ (-10000 ≤ (0 : Int) ∧ (0 : Int) ≤ 10000) := ⟨by rw [zl_zero]; omega, by omega, by omega⟩
  have d0 : Dv 0 0 := Or.inl ⟨rfl, rfl⟩
  by_cases h1 : workB k = true
  · by_cases h2 : mkR (cutQ lo k) (-k) = 0 ∧ mkR (-(cutQ (-hi) k)) (-k) = 0 ∧ enB lo hi k = true
    · have v1 : Dv (enM lo k) (enE lo k) := mk_ok h2.1
      have v2 : Dv (upM hi k) (upE hi k) := mk_ok h2.2.1
      obtain ⟨b1, b2, _⟩ := small_ends h2.2.2 v1 v2
      exact ⟨enM lo k, enE lo k, upM hi k, upE hi k, 0, fun W => by unfold RetEn; rw [if_pos h1, if_pos h2], b1, b2, fun _ => ⟨h1, h2.1, h2.2.1, rfl, rfl, rfl, rfl⟩, v1, v2⟩
    · exact ⟨0, 0, 0, 0, 3, fun W => by unfold RetEn; rw [if_pos h1, if_neg h2], z0, z0, fun h => absurd h (by decide), d0, d0⟩
  · exact ⟨0, 0, 0, 0, 1, fun W => by unfold RetEn; rw [if_neg h1], z0, z0, fun h => absurd h (by decide), d0, d0⟩
/-- Short ends of the image, and a permitted precision: there is a result. -/
theorem RetEn.ok {lo hi : Rat} {k : Int} (hk : workB k = true) {z : Nat} (h1 : zl (cutQ lo k) ≤ z + (k.toNat / 32 + 1)) (h2 : zl (-(cutQ (-hi) k)) ≤ z + (k.toNat / 32 + 1)) (hz : z ≤ 60) (hle : lo ≤ hi) : ∀ W, RetEn W lo hi k = RetIE W (enM lo k) (enE lo k) (upM hi k) (upE hi k) 0 := fun W => by
  obtain ⟨_, p1, p2⟩ := work_perm hk
  obtain ⟨a1, a2, a3⟩ := mk_small h1 hz ⟨p1, p2⟩
  obtain ⟨b1, b2, b3⟩ := mk_small h2 hz ⟨p1, p2⟩
  have hsm : enB lo hi k = true := by
    unfold enB smallB
    rw [Bool.and_eq_true, Bool.and_eq_true, Bool.and_eq_true, Bool.and_eq_true, decide_eq_true_iff, decide_eq_true_iff, decide_eq_true_iff, dcm_le]
    exact ⟨Rat.le_trans (Rat.le_trans (en_lo a1) hle) (up_hi b1), a2, b2, a3, b3⟩
  unfold RetEn
  rw [if_pos hk, if_pos ⟨a1, b1, hsm⟩]


end Go.Proofs.YtfnklkdbieikeaaGreatDoor


/- Short ends of the image and a permitted precision: there is a result, and it contains the image. -/
namespace Go.Proofs.YtfnklkdbieikeaaGreatDoor
open Go.RowKit
set_option linter.unusedVariables false
set_option linter.unusedSimpArgs false
set_option maxRecDepth 100000
attribute [local go_sem ↓] Go.wp_at_zero Go.wp_at_succ

theorem RetEn.sure {lo hi : Rat} {k : Int} (hk : workB k = true) {z : Nat} (h1 : zl (cutQ lo k) ≤ z + (k.toNat / 32 + 1)) (h2 : zl (-(cutQ (-hi) k)) ≤ z + (k.toNat / 32 + 1)) (hz : z ≤ 60) (hle : lo ≤ hi) : ∃ M E N G : Int, (∀ W, RetEn W lo hi k = RetIE W M E N G 0) ∧ (zl M ≤ 400 ∧ (-10000 ≤ E ∧ E ≤ 10000)) ∧ (zl N ≤ 400 ∧ (-10000 ≤ G ∧ G ≤ 10000)) ∧ Dv M E ∧ Dv N G ∧ M = enM lo k ∧ E = enE lo k ∧ N = upM hi k ∧ G = upE hi k ∧ enF lo k ∧ upF hi k ∧ dq M E ≤ lo ∧ hi ≤ dq N G := by
  obtain ⟨_, p1, p2⟩ := work_perm hk
  obtain ⟨a1, a2, a3⟩ := mk_small h1 hz ⟨p1, p2⟩
  obtain ⟨b1, b2, b3⟩ := mk_small h2 hz ⟨p1, p2⟩
  have v1 : Dv (enM lo k) (enE lo k) := mk_ok a1
  have v2 : Dv (upM hi k) (upE hi k) := mk_ok b1
  exact ⟨enM lo k, enE lo k, upM hi k, upE hi k, RetEn.ok hk h1 h2 hz hle, small_end v1 a2 a3, small_end v2 b2 b3, v1, v2, rfl, rfl, rfl, rfl, a1, b1, en_lo a1, up_hi b1⟩


end Go.Proofs.YtfnklkdbieikeaaGreatDoor

