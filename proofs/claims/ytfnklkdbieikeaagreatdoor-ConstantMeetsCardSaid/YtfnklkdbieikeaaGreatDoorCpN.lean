/- Integers as dyadics: sums, products and shifts in their normal form. -/
import Derived.Test.YtfnklkdbieikeaaGreatDoorCpM
import Derived.Test.YtfnklkdbieikeaaGreatDoorBaseX
namespace Go.Proofs.YtfnklkdbieikeaaGreatDoor
open Go.RowKit
set_option linter.unusedVariables false
set_option linter.unusedSimpArgs false
set_option maxRecDepth 100000
attribute [local go_sem ↓] Go.wp_at_zero Go.wp_at_succ

theorem mk_fits9 {m e : Int} (h : zl m ≤ 700) (h1 : -40000 ≤ e) (h2 : e ≤ 40000) : mkR m e = 0 := by
  unfold mkR
  rw [if_neg (by omega)]
  by_cases h0 : m = 0
  · rw [if_pos h0]
  · rw [if_neg h0]
    have ht := tz_le8 m.natAbs (by omega)
    have e1 : zl m = len m.natAbs := rfl
    have hb : blen (oddM m).natAbs ≤ 65536 := by
      have := blen_le_len (oddM m).natAbs
      have h3 := zl_odd m
      have e2 : zl (oddM m) = len (oddM m).natAbs := rfl
      omega
    have ho : bitB (oddM m).natAbs 0 = true := by
      obtain ⟨k, hk⟩ := tz_form (x := m.natAbs) (by omega)
      have hd : m.natAbs / 2 ^ tz m.natAbs = 2 * k + 1 := by
        have := Nat.mul_div_cancel_left (2 * k + 1) (Nat.pow_pos (n := tz m.natAbs) (show 0 < 2 by omega))
        rwa [← hk] at this
      unfold bitB
      rw [oddM_abs, hd, Nat.pow_zero, Nat.div_one]
      exact decide_eq_true (by omega)
    have hf : fits8 (oddM m) (oddE m e) = true := by
      unfold fits8 oddE
      rw [decide_eq_true hb, decide_eq_true (by omega), decide_eq_true (by omega), ho]
      rfl
    rw [hf]
    rfl
theorem mk_uniq {a e b f : Int} (h1 : mkR a e = 0) (h2 : mkR b f = 0) (h : dq a e = dq b f) : mkM a e = mkM b f ∧ mkE a e = mkE b f :=
  dv_uniq (mk_ok h1) (mk_ok h2) (by rw [dq_mk h1, dq_mk h2, h])
theorem mkE_at {x y : Int} {k : Nat} (h : mkR x y = 0) (hz : zl x ≤ k) : mkE x y = 0 ∨ (y ≤ mkE x y ∧ mkE x y ≤ y + 32 * (k : Int)) := by
  unfold mkE
  by_cases h0 : x = 0
  · rw [if_pos h0]; exact Or.inl rfl
  · rw [if_neg h0, if_pos h]
    refine Or.inr ?_
    have ht := tz_le8 x.natAbs (by omega)
    have e1 : zl x = len x.natAbs := rfl
    unfold oddE
    omega
theorem nf {t : Int} {v : Nat} (h : AbP t v) (hv : v ≤ 6000) : mkR t 0 = 0 ∧ zl (mkM t 0) ≤ 200 ∧ 0 ≤ mkE t 0 ∧ mkE t 0 ≤ 6400 ∧ mkM t 0 * 2 ^ (mkE t 0).toNat = t ∧ dq (mkM t 0) (mkE t 0) = dq t 0 := by
  have hz := h.zl
  have hr : mkR t 0 = 0 := mk_fits2 (by omega) (by omega) (by omega)
  have z1 := zl_mk t 0
  have z2 := mkE_at hr (show zl t ≤ 190 by omega)
  refine ⟨hr, by omega, by omega, by omega, ?_, dq_mk hr⟩
  unfold mkM mkE
  rw [if_pos hr, if_pos hr]
  by_cases h0 : t = 0
  · subst h0; rw [oddM_zero]; simp
  · rw [if_neg h0, show (oddE t 0).toNat = tz t.natAbs from by unfold oddE; omega, odd_form]
theorem nf_zero {t : Int} {v : Nat} (h : AbP t v) (hv : v ≤ 6000) : mkM t 0 = 0 ↔ t = 0 := by
  obtain ⟨_, _, _, _, h5, _⟩ := nf h hv
  constructor
  · intro e
    rw [e, Int.zero_mul] at h5
    exact h5.symm
  · rintro rfl
    have hr := (nf (AbP.zero 0) (by omega)).1
    unfold mkM
    rw [if_pos hr]
    exact oddM_zero
theorem nf00 : mkM 0 0 = 0 ∧ mkE 0 0 = 0 := by
  refine ⟨(nf_zero (AbP.zero 0) (by omega)).2 rfl, ?_⟩
  unfold mkE
  rw [if_pos rfl]
/-- Such a dyadic's fraction. -/
theorem nf_rat {t : Int} {v : Nat} (h : AbP t v) (hv : v ≤ 6000) : mkM t 0 * 2 ^ (mkE t 0).toNat = t ∧ 2 ^ (-(mkE t 0)).toNat = 1 := by
  obtain ⟨_, _, h3, _, h5, _⟩ := nf h hv
  refine ⟨h5, ?_⟩
  rw [show (-(mkE t 0)).toNat = 0 by omega, Nat.pow_zero]
theorem nf_sign {t : Int} {v : Nat} (h : AbP t v) (hv : v ≤ 6000) : (cmpI (mkM t 0) 0 == 0) = decide (t = 0) := by
  have := nf_zero h hv
  unfold cmpI
  (repeat' split) <;> simp <;> omega
theorem nf_add {s t : Int} {v : Nat} (h1 : AbP s v) (h2 : AbP t v) (hv : v ≤ 5000) :
    mkR (addS (mkM s 0) (mkE s 0) (mkM t 0) (mkE t 0)) (min (mkE s 0) (mkE t 0)) = 0 ∧ mkM (addS (mkM s 0) (mkE s 0) (mkM t 0) (mkE t 0)) (min (mkE s 0) (mkE t 0)) = mkM (s + t) 0 ∧ mkE (addS (mkM s 0) (mkE s 0) (mkM t 0) (mkE t 0)) (min (mkE s 0) (mkE t 0)) = mkE (s + t) 0 := by
  obtain ⟨a1, a2, a3, a4, _, a6⟩ := nf h1 (by omega)
  obtain ⟨b1, b2, b3, b4, _, b6⟩ := nf h2 (by omega)
  have hz := zl_addS (mkM s 0) (mkE s 0) (mkM t 0) (mkE t 0) 6400 (by omega) (by omega)
  have hr : mkR (addS (mkM s 0) (mkE s 0) (mkM t 0) (mkE t 0)) (min (mkE s 0) (mkE t 0)) = 0 := mk_fits9 (by omega) (by omega) (by omega)
  obtain ⟨c1, _⟩ := nf (h1.add h2) (by omega)
  exact ⟨hr, mk_uniq hr c1 (by rw [dq_add, a6, b6, dq_int, dq_int, dq_int, Rat.intCast_add])⟩
theorem nf_sub {s t : Int} {v : Nat} (h1 : AbP s v) (h2 : AbP t v) (hv : v ≤ 5000) :
    mkR (addS (mkM s 0) (mkE s 0) (-(mkM t 0)) (mkE t 0)) (min (mkE s 0) (mkE t 0)) = 0 ∧ mkM (addS (mkM s 0) (mkE s 0) (-(mkM t 0)) (mkE t 0)) (min (mkE s 0) (mkE t 0)) = mkM (s - t) 0 ∧ mkE (addS (mkM s 0) (mkE s 0) (-(mkM t 0)) (mkE t 0)) (min (mkE s 0) (mkE t 0)) = mkE (s - t) 0 := by
  obtain ⟨a1, a2, a3, a4, _, a6⟩ := nf h1 (by omega)
  obtain ⟨b1, b2, b3, b4, _, b6⟩ := nf h2 (by omega)
  have hn := zl_neg (mkM t 0)
  have hz := zl_addS (mkM s 0) (mkE s 0) (-(mkM t 0)) (mkE t 0) 6400 (by omega) (by omega)
  have hr : mkR (addS (mkM s 0) (mkE s 0) (-(mkM t 0)) (mkE t 0)) (min (mkE s 0) (mkE t 0)) = 0 := mk_fits9 (by omega) (by omega) (by omega)
  obtain ⟨c1, _⟩ := nf (h1.add h2.neg) (by omega)
  rw [← Int.sub_eq_add_neg] at c1
  exact ⟨hr, mk_uniq hr c1 (by rw [dq_add, dq_neg, a6, b6, dq_int, dq_int, dq_int, Rat.intCast_sub, Rat.sub_eq_add_neg])⟩
theorem nf_mul {s t : Int} {v u : Nat} (h1 : AbP s v) (h2 : AbP t u) (hv : v + u ≤ 5000) :
    mkR (mkM s 0 * mkM t 0) (mkE s 0 + mkE t 0) = 0 ∧ mkM (mkM s 0 * mkM t 0) (mkE s 0 + mkE t 0) = mkM (s * t) 0 ∧ mkE (mkM s 0 * mkM t 0) (mkE s 0 + mkE t 0) = mkE (s * t) 0 := by
  obtain ⟨a1, a2, a3, a4, _, a6⟩ := nf h1 (by omega)
  obtain ⟨b1, b2, b3, b4, _, b6⟩ := nf h2 (by omega)
  have e1 := mkE_at a1 (k := 200) (by have := h1.zl; omega)
  have e2 := mkE_at b1 (k := 200) (by have := h2.zl; omega)
  obtain ⟨c1, _⟩ := nf (h1.mul h2) (by omega)
  have hz : zl (mkM s 0 * mkM t 0) ≤ 400 := by
    have := zl_mul (mkM s 0) (mkM t 0)
    omega
  have hr : mkR (mkM s 0 * mkM t 0) (mkE s 0 + mkE t 0) = 0 := mk_fits9 (by omega) (by omega) (by omega)
  exact ⟨hr, mk_uniq hr c1 (by rw [dq_mul, a6, b6, dq_int, dq_int, dq_int, Rat.intCast_mul])⟩
theorem dq_shift (s k : Int) : dq s k = dq s 0 * dq 1 k := by
  have := dq_mul s 0 1 k
  rw [Int.mul_one, Int.zero_add] at this
  exact this
theorem nf_dq {t k : Int} {v : Nat} (h : AbP t v) (hv : v ≤ 6000) : dq (mkM t 0) (mkE t 0 + k) = dq t k := by
  obtain ⟨_, _, _, _, _, h6⟩ := nf h hv
  have := dq_mul (mkM t 0) (mkE t 0) 1 k
  rw [Int.mul_one, h6, ← dq_shift] at this
  exact this
/-- Shifts up: of one. -/
theorem nf_up {k : Nat} (hk : k ≤ 4000) : mkR (mkM 1 0) (mkE 1 0 + (k : Int)) = 0 ∧ mkM (mkM 1 0) (mkE 1 0 + (k : Int)) = mkM (2 ^ k) 0 ∧ mkE (mkM 1 0) (mkE 1 0 + (k : Int)) = mkE (2 ^ k) 0 := by
  have h1 : AbP 1 0 := by unfold AbP; decide
  obtain ⟨a1, a2, a3, a4, _⟩ := nf h1 (by omega)
  obtain ⟨c1, _⟩ := nf ((tm_one k).abs.1) (by omega)
  have hr : mkR (mkM 1 0) (mkE 1 0 + (k : Int)) = 0 := mk_fits9 (by omega) (by omega) (by omega)
  refine ⟨hr, mk_uniq hr c1 ?_⟩
  rw [nf_dq h1 (by omega)]
  refine dq_eq (F := 0) ?_ (by omega) (by omega)
  rw [show ((k : Int) - 0).toNat = k by omega, show ((0 : Int) - 0).toNat = 0 by omega]
  simp
/-- Shifts down. -/
theorem nf_down {s : Int} {v k : Nat} (h : AbP s v) (hv : v ≤ 5000) (hk : k ≤ 5000) : mkR (mkM s 0) (mkE s 0 + -(k : Int)) = 0 ∧ Dv (mkM (mkM s 0) (mkE s 0 + -(k : Int))) (mkE (mkM s 0) (mkE s 0 + -(k : Int))) ∧ dq (mkM (mkM s 0) (mkE s 0 + -(k : Int))) (mkE (mkM s 0) (mkE s 0 + -(k : Int))) = dq s (-(k : Int)) ∧
    zl (mkM (mkM s 0) (mkE s 0 + -(k : Int))) ≤ 200 ∧ -20000 ≤ mkE (mkM s 0) (mkE s 0 + -(k : Int)) ∧ mkE (mkM s 0) (mkE s 0 + -(k : Int)) ≤ 20000 := by
  obtain ⟨a1, a2, a3, a4, _, a6⟩ := nf h (by omega)
  have e1 := mkE_at a1 (k := 160) (by have := h.zl; omega)
  have hr : mkR (mkM s 0) (mkE s 0 + -(k : Int)) = 0 := mk_fits9 (by omega) (by omega) (by omega)
  have z1 := zl_mk (mkM s 0) (mkE s 0 + -(k : Int))
  have e2 := mkE_at hr a2
  exact ⟨hr, mk_ok hr, by rw [dq_mk hr, nf_dq h (by omega)], by omega, by omega, by omega⟩

end Go.Proofs.YtfnklkdbieikeaaGreatDoor
