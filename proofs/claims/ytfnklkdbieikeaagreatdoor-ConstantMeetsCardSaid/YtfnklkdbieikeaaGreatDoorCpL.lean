/- What the walks of layer 13's laws lean on. -/
import Derived.Test.YtfnklkdbieikeaaGreatDoorCpE
import Derived.Test.YtfnklkdbieikeaaGreatDoorRefCoK
import Derived.Test.YtfnklkdbieikeaaGreatDoorRefCoL
import Derived.Test.YtfnklkdbieikeaaGreatDoorBaseW
import Derived.Test.YtfnklkdbieikeaaGreatDoorBaseX
namespace Go.Proofs.YtfnklkdbieikeaaGreatDoor
open Go.RowKit
set_option linter.unusedVariables false
set_option linter.unusedSimpArgs false
set_option maxRecDepth 100000
attribute [local go_sem ↓] Go.wp_at_zero Go.wp_at_succ

/-- The ends of a constant's interval, as Make returns them. -/
def aM (T : Int) (k : Nat) : Int := mkM (loC T) (-(k : Int))
def aE (T : Int) (k : Nat) : Int := mkE (loC T) (-(k : Int))
def bM (T : Int) (k : Nat) : Int := mkM (hiC T) (-(k : Int))
def bE (T : Int) (k : Nat) : Int := mkE (hiC T) (-(k : Int))
/-- What a law asks of the ends of an interval. -/
def Okd (m e : Int) : Prop := zl m ≤ 50 ∧ (-3000 ≤ e ∧ e ≤ 3000) ∧ Dv m e
theorem mk_okd {C : Int} {k j : Nat} (h : AbP C j) (hj : j ≤ 1300) (hk : k ≤ 900) : Okd (mkM C (-(k : Int))) (mkE C (-(k : Int))) ∧ dq (mkM C (-(k : Int))) (mkE C (-(k : Int))) = dq C (-(k : Int)) ∧ -(k : Int) ≤ mkE C (-(k : Int)) := by
  have hz := h.zl
  have hr : mkR C (-(k : Int)) = 0 := mk_fits9 (by omega) (by omega) (by omega)
  have z1 := zl_mk C (-(k : Int))
  have e1 := mkE_at hr (k := 41) (by omega)
  exact ⟨⟨by omega, by omega, mk_ok hr⟩, dq_mk hr, by omega⟩
theorem pi_abs {k : Nat} {T : Int} (hk : k ≤ 400) (h : piT (k + 32) = some T) : AbP T 1100 := by
  obtain ⟨a, b, h1, h2, rfl⟩ := add2_some h
  obtain ⟨S0, hS0, r0⟩ := pt1_some h1
  obtain ⟨S1, hS1, r1⟩ := pt1_some h2
  have x0 := (smP_abs (tnP_good (by simp)) 600 0 _ _ _ (sp_first hS0)).mul (show AbP 16 10 by unfold AbP; decide)
  have x1 := (smP_abs (tnP_good (by simp)) 600 0 _ _ _ (sp_first hS1)).mul (show AbP (-4) 10 by unfold AbP; decide)
  subst r0 r1
  exact (x0.add x1).up (by omega)
theorem ex_abs {k : Nat} {T : Int} (hk : k ≤ 400) (h : exT (k + 32) = some T) : AbP T 1100 := by
  obtain ⟨S0, hS0, r0⟩ := pt1_some h
  subst r0
  exact ((smP_abs exP_good 600 0 _ _ _ (sp_first hS0)).mul (show AbP 1 10 by unfold AbP; decide)).up (by omega)
theorem ln_abs {k : Nat} {T : Int} (hk : k ≤ 400) (h : lnT (k + 32) = some T) : AbP T 1100 := by
  obtain ⟨a9, b, h9, h2, rfl⟩ := add2_some h
  obtain ⟨a, c, h1, h3, rfl⟩ := add2_some h9
  obtain ⟨S0, hS0, r0⟩ := pt1_some h1
  obtain ⟨S1, hS1, r1⟩ := pt1_some h3
  obtain ⟨S2, hS2, r2⟩ := pt1_some h2
  have x0 := (smP_abs (tnP_good (by simp)) 600 0 _ _ _ (sp_first hS0)).mul (show AbP 18 10 by unfold AbP; decide)
  have x1 := (smP_abs (tnP_good (by simp)) 600 0 _ _ _ (sp_first hS1)).mul (show AbP (-2) 10 by unfold AbP; decide)
  have x2 := (smP_abs (tnP_good (by simp)) 600 0 _ _ _ (sp_first hS2)).mul (show AbP 8 10 by unfold AbP; decide)
  subst r0 r1 r2
  exact ((x0.add x1).add (x2.up (by omega))).up (by omega)
theorem inP_spec {c : Int} {k : Nat} {o : Option Int} (h : inP c k o = true) : ∃ T, o = some T ∧ loC T * 2 ^ (500 - k) ≤ c ∧ c ≤ hiC T * 2 ^ (500 - k) := by
  match o with
  | none => cases h
  | some T =>
    unfold inP at h
    rw [Bool.and_eq_true] at h
    exact ⟨T, rfl, of_decide_eq_true h.1, of_decide_eq_true h.2⟩
theorem dq_up (C : Int) {k F : Nat} (h : k ≤ F) : dq C (-(k : Int)) = dq (C * 2 ^ (F - k)) (-(F : Int)) := by
  refine dq_eq (F := -(F : Int)) ?_ (by omega) (by omega)
  rw [show (-(k : Int) - -(F : Int)).toNat = F - k by omega, show (-(F : Int) - -(F : Int)).toNat = 0 by omega]
  simp
/-- A constant's interval: what the laws use. -/
structure Cst (T c : Int) (k : Nat) : Prop where
  lo : Okd (aM T k) (aE T k)
  hi : Okd (bM T k) (bE T k)
  qlo : dq (aM T k) (aE T k) = dq (loC T) (-(k : Int))
  qhi : dq (bM T k) (bE T k) = dq (hiC T) (-(k : Int))
  clo : dq (aM T k) (aE T k) ≤ dq c (-500)
  chi : dq c (-500) ≤ dq (bM T k) (bE T k)
  tight : tgtB (aM T k) (aE T k) (bM T k) (bE T k) (k : Int) = true
theorem lo_le_hi (T : Int) : loC T ≤ hiC T := div_cdv (by omega) (by omega)
theorem hi_le_lo (T : Int) : hiC T ≤ loC T + 2 := by
  unfold hiC loC
  rw [cdv_le (by omega)]
  have := Int.lt_ediv_add_one_mul_self (T - 262144) (show (0 : Int) < 4294967296 by omega)
  omega
theorem cst_of {T c : Int} {k : Nat} (hk : k ≤ 400) (hT : AbP T 1100) (h1 : loC T * 2 ^ (500 - k) ≤ c) (h2 : c ≤ hiC T * 2 ^ (500 - k)) : Cst T c k := by
  obtain ⟨l1, l2⟩ := loC_abs hT (by omega)
  obtain ⟨x1, x2, x3⟩ := mk_okd (k := k) l1 (by omega) (by omega)
  obtain ⟨y1, y2, y3⟩ := mk_okd (k := k) l2 (by omega) (by omega)
  have hle : dq (aM T k) (aE T k) ≤ dq (bM T k) (bE T k) := by
    unfold aM aE bM bE
    rw [x2, y2, dq_le_iff]
    exact lo_le_hi T
  refine ⟨x1, y1, x2, y2, ?_, ?_, ?_⟩
  · unfold aM aE
    rw [x2, dq_up _ (show k ≤ 500 by omega)]
    exact (dq_le_iff _ _ _).2 h1
  · unfold bM bE
    rw [y2, dq_up _ (show k ≤ 500 by omega)]
    exact (dq_le_iff _ _ _).2 h2
  · have hpk : permB (k : Int) = true := by
      unfold permB
      rw [decide_eq_true (show (-2048 : Int) ≤ (k : Int) by omega), decide_eq_true (show (k : Int) ≤ 8192 by omega)]
      rfl
    have hpj : permB ((k : Int) - 1) = true := by
      unfold permB
      rw [decide_eq_true (show (-2048 : Int) ≤ (k : Int) - 1 by omega), decide_eq_true (show (k : Int) - 1 ≤ 8192 by omega)]
      rfl
    obtain ⟨w1, _, w3, _⟩ := width_ok (m := aM T k) (e := aE T k) (n := bM T k) (f := bE T k) x1.1 y1.1 x1.2.1 y1.2.1
    obtain ⟨g1, g2, g3⟩ := g_yes hpj 1
    have hr1 : mkR 1 (-((k : Int) - 1)) = 0 := mk_fits9 (show zl 1 ≤ 700 from Nat.le_trans (len_le1 (by decide)) (by omega)) (by omega) (by omega)
    have hw : dcm (wdM (aM T k) (aE T k) (bM T k) (bE T k)) (wdE (aM T k) (aE T k) (bM T k) (bE T k)) (gM 1 ((k : Int) - 1)) (gE 1 ((k : Int) - 1)) ≤ 0 := by
      rw [dcm_le, g1, g2, dq_mk hr1]
      unfold wdM wdE
      rw [w3]
      unfold aM aE bM bE
      rw [x2, y2]
      have e2 : dq 1 (-((k : Int) - 1)) = dq 2 (-(k : Int)) := by
        refine dq_eq (F := -(k : Int)) ?_ (by omega) (by omega)
        rw [show (-((k : Int) - 1) - -(k : Int)).toNat = 1 by omega, show (-(k : Int) - -(k : Int)).toNat = 0 by omega]
        rfl
      have e3 : dq (hiC T) (-(k : Int)) - dq (loC T) (-(k : Int)) = dq (hiC T - loC T) (-(k : Int)) := by
        rw [Int.sub_eq_add_neg, dq_scale (hiC T + -loC T), Rat.intCast_add, Rat.add_mul, ← dq_scale, ← dq_scale, dq_neg, Rat.sub_eq_add_neg]
      rw [e2, e3, dq_le_iff]
      have := hi_le_lo T
      omega
    unfold tgtB onB
    rw [hpk, decide_eq_true (show (0 : Int) ≤ (k : Int) by omega), decide_eq_true (show (k : Int) ≤ 4224 by omega), decide_eq_true ((dcm_le _ _ _ _).2 hle), decide_eq_true (show wdR (aM T k) (aE T k) (bM T k) (bE T k) = 0 from w1), decide_eq_true hw, decide_eq_true (show -(k : Int) ≤ aE T k from x3), decide_eq_true (show -(k : Int) ≤ bE T k from y3), Bool.or_true, Bool.or_true]
    rfl
theorem cst_pi {k : Nat} (hk : k < 400) : ∃ T, piT (k + 32) = some T ∧ Cst T cPi k := by
  have h := List.all_eq_true.1 pi_all k (List.mem_range.2 hk)
  obtain ⟨T, e, h1, h2⟩ := inP_spec h
  exact ⟨T, e, cst_of (by omega) (pi_abs (by omega) e) h1 h2⟩
theorem cst_ex {k : Nat} (hk : k < 400) : ∃ T, exT (k + 32) = some T ∧ Cst T cEx k := by
  have h := List.all_eq_true.1 ex_all k (List.mem_range.2 hk)
  obtain ⟨T, e, h1, h2⟩ := inP_spec h
  exact ⟨T, e, cst_of (by omega) (ex_abs (by omega) e) h1 h2⟩
theorem cst_ln {k : Nat} (hk : k < 400) : ∃ T, lnT (k + 32) = some T ∧ Cst T cLn k := by
  have h := List.all_eq_true.1 ln_all k (List.mem_range.2 hk)
  obtain ⟨T, e, h1, h2⟩ := inP_spec h
  exact ⟨T, e, cst_of (by omega) (ln_abs (by omega) e) h1 h2⟩
/-- The reference's enclosures. -/
structure Knw (a b c : Int) (k : Nat) : Prop where
  lo : Okd (loM a k) (loE a k)
  hi : Okd (hiM b k) (hiE b k)
  clo : dq (loM a k) (loE a k) ≤ dq c (-500)
  chi : dq c (-500) ≤ dq (hiM b k) (hiE b k)
theorem knw_of {a b c : Int} {k : Nat} (hk : k ≤ 400) (ha : AbP a 1250) (hb : AbP b 1250) (h : inR c k a b = true) : Knw a b c k := by
  unfold inR at h
  rw [Bool.and_eq_true] at h
  have h1 := of_decide_eq_true h.1
  have h2 := of_decide_eq_true h.2
  have e20 : (2 : Int) ^ 20 = 1048576 := by decide
  have ha2 : AbP (a / 2 ^ 20) 1250 := Nat.le_trans (Int.natAbs_ediv_le_natAbs _ _) ha
  have hb2 : AbP (cdv b (2 ^ 20)) 1250 := by
    unfold AbP cdv at *
    rw [Int.natAbs_neg]
    refine Nat.le_trans (Int.natAbs_ediv_le_natAbs _ _) ?_
    rw [Int.natAbs_neg]
    exact hb
  obtain ⟨x1, x2, _⟩ := mk_okd (k := k + 20) ha2 (by omega) (by omega)
  obtain ⟨y1, y2, _⟩ := mk_okd (k := k + 20) hb2 (by omega) (by omega)
  refine ⟨x1, y1, ?_, ?_⟩
  · unfold loM loE
    rw [x2, dq_up _ (show k + 20 ≤ 500 by omega), e20, show 500 - (k + 20) = 480 - k by omega]
    exact (dq_le_iff _ _ _).2 h1
  · unfold hiM hiE
    rw [y2, dq_up _ (show k + 20 ≤ 500 by omega), e20, show 500 - (k + 20) = 480 - k by omega]
    exact (dq_le_iff _ _ _).2 h2
theorem knw_pi {k : Nat} (hk : k < 300) : Knw (piL (k + 40)) (piH (k + 40)) cPi k := by
  have h := List.all_eq_true.1 pi_ref k (List.mem_range.2 hk)
  obtain ⟨a1, a2⟩ := atR_abs (n := 5) (by omega) (k + 40) 0 _ _ 0 0 (at_first (n := 5) (by omega) (k + 40))
  obtain ⟨b1, b2⟩ := atR_abs (n := 239) (by omega) (k + 40) 0 _ _ 0 0 (at_first (n := 239) (by omega) (k + 40))
  have two : AbP 2 10 := by unfold AbP; decide
  have f4 : AbP 4 10 := by unfold AbP; decide
  have f16 : AbP 16 10 := by unfold AbP; decide
  have al : AbP (atL 5 (k + 40)) 1200 := by unfold atL; rw [Int.sub_eq_add_neg]; exact ((a1.up (show _ ≤ 900 by omega)).add (two.neg.up (by omega))).up (by omega)
  have ah : AbP (atH 5 (k + 40)) 1200 := ((a2.up (show _ ≤ 900 by omega)).add (two.up (by omega))).up (by omega)
  have bl : AbP (atL 239 (k + 40)) 1200 := by unfold atL; rw [Int.sub_eq_add_neg]; exact ((b1.up (show _ ≤ 900 by omega)).add (two.neg.up (by omega))).up (by omega)
  have bh : AbP (atH 239 (k + 40)) 1200 := ((b2.up (show _ ≤ 900 by omega)).add (two.up (by omega))).up (by omega)
  exact knw_of (by omega) (((al.mul f16).add (bh.mul f4).neg).up (by omega)) (((ah.mul f16).add (bl.mul f4).neg).up (by omega)) h
theorem knw_ex {k : Nat} (hk : k < 300) : Knw (exL (k + 40)) (exH (k + 40)) cEx k := by
  have h := List.all_eq_true.1 ex_ref k (List.mem_range.2 hk)
  obtain ⟨a1, a2⟩ := exR_abs (k + 40 + 2) 1 _ _ _ _ (ex_first (k + 40))
  have two : AbP 3 10 := by unfold AbP; decide
  refine knw_of (by omega) ?_ ?_ h
  · unfold exL
    rw [Int.sub_eq_add_neg]
    exact ((a1.up (show _ ≤ 900 by omega)).add (two.neg.up (by omega))).up (by omega)
  · exact ((a2.up (show _ ≤ 900 by omega)).add (two.up (by omega))).up (by omega)
theorem knw_ln {k : Nat} (hk : k < 300) : Knw (lnL (k + 40)) (lnH (k + 40)) cLn k := by
  have h := List.all_eq_true.1 ln_ref k (List.mem_range.2 hk)
  obtain ⟨a1, a2⟩ := lnR_abs (k + 40) 0 _ _ 0 0 (at_first (n := 3) (by omega) (k + 40))
  have two : AbP 2 10 := by unfold AbP; decide
  refine knw_of (by omega) ?_ ?_ h
  · unfold lnL
    rw [Int.sub_eq_add_neg]
    exact (((a1.up (show _ ≤ 900 by omega)).add (two.neg.up (by omega))).mul two).up (by omega)
  · exact (((a2.up (show _ ≤ 900 by omega)).add (two.up (by omega))).mul two).up (by omega)
/-- Intervals with a number in common meet. -/
theorem icm_meet {m e n f m2 e2 n2 f2 : Int} (h1 : dq m2 e2 ≤ dq n f) (h2 : dq m e ≤ dq n2 f2) : icm m e n f m2 e2 n2 f2 = 0 := by
  unfold icm
  rw [if_neg (by rw [dcm_lt]; exact Rat.not_lt.2 h1), if_neg (by have := (dcm_le _ _ _ _).2 h2; omega)]
theorem icm_le {m e n f m2 e2 n2 f2 : Int} (h2 : dq m e ≤ dq n2 f2) : icm m e n f m2 e2 n2 f2 ≤ 0 := by
  unfold icm
  split
  · omega
  · rw [if_neg (by have := (dcm_le _ _ _ _).2 h2; omega)]
    omega
theorem c_order : dq cLn (-500) ≤ dq cEx (-500) ∧ dq cEx (-500) ≤ dq cPi (-500) ∧ dq cLn (-500) ≤ dq cPi (-500) := by
  refine ⟨(dq_le_iff _ _ _).2 ?_, (dq_le_iff _ _ _).2 ?_, (dq_le_iff _ _ _).2 ?_⟩ <;> decide

end Go.Proofs.YtfnklkdbieikeaaGreatDoor
