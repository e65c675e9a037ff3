/- Joined: CpL, Awake13, CpT, CoS, MillAr (what the law leans on). -/
import Derived.Test.YtfnklkdbieikeaaGreatDoorBaseJ
import Derived.Test.YtfnklkdbieikeaaGreatDoorRefDivMod
import Derived.Test.YtfnklkdbieikeaaGreatDoorBaseE
import Derived.Test.YtfnklkdbieikeaaGreatDoorBaseG
import Derived.Test.YtfnklkdbieikeaaGreatDoorBaseV
import Derived.Test.YtfnklkdbieikeaaGreatDoorGrPC
import Derived.Test.YtfnklkdbieikeaaGreatDoorBaseW
import Derived.Test.YtfnklkdbieikeaaGreatDoorBaseX
import Derived.Test.YtfnklkdbieikeaaGreatDoorBaseZ
import Derived.Test.YtfnklkdbieikeaaGreatDoorJN1
import Derived.Test.YtfnklkdbieikeaaGreatDoorJN2
import Derived.Deep.Cut
import Derived.Deep.CutRange
import Derived.Deep.DrawnRows
import Derived.Deep.RegionHeld3
import Derived.Deep.WholeRow
namespace Go.Proofs.YtfnklkdbieikeaaGreatDoor
open Go.RowKit
set_option linter.unusedVariables false
set_option linter.unusedSimpArgs false
set_option maxRecDepth 100000
attribute [local go_sem ↓] Go.wp_at_zero Go.wp_at_succ

/-- The ends of a constant's interval, as Make returns them. -/
def aM (T : Int) (k : Nat) : Int := mkM (loC T) (-(k : Int))
def aE (T : Int) (k : Nat) : Int := mkE (loC T) (-(k : Int))
def bM (T : Int) (k : Nat) : Int := mkM (hiC T) (-(k : Int))
def bE (T : Int) (k : Nat) : Int := mkE (hiC T) (-(k : Int))
/-- What a law asks of the ends of an interval. -/
def Okd (m e : Int) : Prop := zl m ≤ 50 ∧ (-3000 ≤ e ∧ e ≤ 3000) ∧ Dv m e
theorem mk_okd {C : Int} {k j : Nat} (h : AbP C j) (hj : j ≤ 1300) (hk : k ≤ 900) : Okd (mkM C (-(k : Int))) (mkE C (-(k : Int))) ∧ dq (mkM C (-(k : Int))) (mkE C (-(k : Int))) = dq C (-(k : Int)) ∧ -(k : Int) ≤ mkE C (-(k : Int)) := by
  have hz := h.zl
  have hr : mkR C (-(k : Int)) = 0 := mk_fits9 (by omega) (by omega) (by omega)
  have z1 := zl_mk C (-(k : Int))
  have e1 := mkE_at hr (k := 41) (by omega)
  exact ⟨⟨by omega, by omega, mk_ok hr⟩, dq_mk hr, by omega⟩
theorem pi_abs {k : Nat} {T : Int} (hk : k ≤ 400) (h : piT (k + 32) = some T) : AbP T 1100 := by
  obtain ⟨a, b, h1, h2, rfl⟩ := add2_some h
  obtain ⟨S0, hS0, r0⟩ := pt1_some h1
  obtain ⟨S1, hS1, r1⟩ := pt1_some h2
  have x0 := (smP_abs (tnP_good (by simp)) 600 0 _ _ _ (sp_first hS0)).mul (show AbP 16 10 by unfold AbP; decide)
  have x1 := (smP_abs (tnP_good (by simp)) 600 0 _ _ _ (sp_first hS1)).mul (show AbP (-4) 10 by unfold AbP; decide)
  subst r0 r1
  exact (x0.add x1).up (by omega)
theorem inP_spec {c : Int} {k : Nat} {o : Option Int} (h : inP c k o = true) : ∃ T, o = some T ∧ loC T * 2 ^ (500 - k) ≤ c ∧ c ≤ hiC T * 2 ^ (500 - k) := by
  match o with
  | none => cases h
  | some T =>
    unfold inP at h
    rw [Bool.and_eq_true] at h
    exact ⟨T, rfl, of_decide_eq_true h.1, of_decide_eq_true h.2⟩
theorem dq_up (C : Int) {k F : Nat} (h : k ≤ F) : dq C (-(k : Int)) = dq (C * 2 ^ (F - k)) (-(F : Int)) := by
  refine dq_eq (F := -(F : Int)) ?_ (by omega) (by omega)
  rw [show (-(k : Int) - -(F : Int)).toNat = F - k by omega, show (-(F : Int) - -(F : Int)).toNat = 0 by omega]
  simp
/-- A constant's interval: what the laws use. -/
structure Cst (T c : Int) (k : Nat) : Prop where
  lo : Okd (aM T k) (aE T k)
  hi : Okd (bM T k) (bE T k)
  qlo : dq (aM T k) (aE T k) = dq (loC T) (-(k : Int))
  qhi : dq (bM T k) (bE T k) = dq (hiC T) (-(k : Int))
  clo : dq (aM T k) (aE T k) ≤ dq c (-500)
  chi : dq c (-500) ≤ dq (bM T k) (bE T k)
  tight : tgtB (aM T k) (aE T k) (bM T k) (bE T k) (k : Int) = true
theorem lo_le_hi (T : Int) : loC T ≤ hiC T := div_cdv (by omega) (by omega)
theorem hi_le_lo (T : Int) : hiC T ≤ loC T + 2 := by
  unfold hiC loC
  rw [cdv_le (by omega)]
  have := Int.lt_ediv_add_one_mul_self (T - 262144) (show (0 : Int) < 4294967296 by omega)
  omega
theorem cst_of {T c : Int} {k : Nat} (hk : k ≤ 400) (hT : AbP T 1100) (h1 : loC T * 2 ^ (500 - k) ≤ c) (h2 : c ≤ hiC T * 2 ^ (500 - k)) : Cst T c k := by
  obtain ⟨l1, l2⟩ := loC_abs hT (by omega)
  obtain ⟨x1, x2, x3⟩ := mk_okd (k := k) l1 (by omega) (by omega)
  obtain ⟨y1, y2, y3⟩ := mk_okd (k := k) l2 (by omega) (by omega)
  have hle : dq (aM T k) (aE T k) ≤ dq (bM T k) (bE T k) := by
    unfold aM aE bM bE
    rw [x2, y2, dq_le_iff]
    exact lo_le_hi T
  refine ⟨x1, y1, x2, y2, ?_, ?_, ?_⟩
  · unfold aM aE
    rw [x2, dq_up _ (show k ≤ 500 by omega)]
    exact (dq_le_iff _ _ _).2 h1
  · unfold bM bE
    rw [y2, dq_up _ (show k ≤ 500 by omega)]
    exact (dq_le_iff _ _ _).2 h2
  · have hpk : permB (k : Int) = true := by
      unfold permB
      rw [decide_eq_true (show (-2048 : Int) ≤ (k : Int) by omega), decide_eq_true (show (k : Int) ≤ 8192 by omega)]
      rfl
    have hpj : permB ((k : Int) - 1) = true := by
      unfold permB
      rw [decide_eq_true (show (-2048 : Int) ≤ (k : Int) - 1 by omega), decide_eq_true (show (k : Int) - 1 ≤ 8192 by omega)]
      rfl
    obtain ⟨w1, _, w3, _⟩ := width_ok (m := aM T k) (e := aE T k) (n := bM T k) (f := bE T k) x1.1 y1.1 x1.2.1 y1.2.1
    obtain ⟨g1, g2, g3⟩ := g_yes hpj 1
    have hr1 : mkR 1 (-((k : Int) - 1)) = 0 := mk_fits9 (show zl 1 ≤ 700 from Nat.le_trans (len_le1 (by decide)) (by omega)) (by omega) (by omega)
    have hw : dcm (wdM (aM T k) (aE T k) (bM T k) (bE T k)) (wdE (aM T k) (aE T k) (bM T k) (bE T k)) (gM 1 ((k : Int) - 1)) (gE 1 ((k : Int) - 1)) ≤ 0 := by
      rw [dcm_le, g1, g2, dq_mk hr1]
      unfold wdM wdE
      rw [w3]
      unfold aM aE bM bE
      rw [x2, y2]
      have e2 : dq 1 (-((k : Int) - 1)) = dq 2 (-(k : Int)) := by
        refine dq_eq (F := -(k : Int)) ?_ (by omega) (by omega)
        rw [show (-((k : Int) - 1) - -(k : Int)).toNat = 1 by omega, show (-(k : Int) - -(k : Int)).toNat = 0 by omega]
        rfl
      have e3 : dq (hiC T) (-(k : Int)) - dq (loC T) (-(k : Int)) = dq (hiC T - loC T) (-(k : Int)) := by
        rw [Int.sub_eq_add_neg, dq_scale (hiC T + -loC T), Rat.intCast_add, Rat.add_mul, ← dq_scale, ← dq_scale, dq_neg, Rat.sub_eq_add_neg]
      rw [e2, e3, dq_le_iff]
      have := hi_le_lo T
      omega
    unfold tgtB onB
    rw [hpk, decide_eq_true (show (0 : Int) ≤ (k : Int) by omega), decide_eq_true (show (k : Int) ≤ 4224 by omega), decide_eq_true ((dcm_le _ _ _ _).2 hle), decide_eq_true (show wdR (aM T k) (aE T k) (bM T k) (bE T k) = 0 from w1), decide_eq_true hw, decide_eq_true (show -(k : Int) ≤ aE T k from x3), decide_eq_true (show -(k : Int) ≤ bE T k from y3), Bool.or_true, Bool.or_true]
    rfl
theorem cst_pi {k : Nat} (hk : k < 400) : ∃ T, piT (k + 32) = some T ∧ Cst T cPi k := by
  have h := List.all_eq_true.1 pi_all k (List.mem_range.2 hk)
  obtain ⟨T, e, h1, h2⟩ := inP_spec h
  exact ⟨T, e, cst_of (by omega) (pi_abs (by omega) e) h1 h2⟩
set_option maxHeartbeats 16000000 in
theorem awake13_any (w : World) (hT : Tab w) :
    Calls Tryz.prog 8 #[] w (RetB w true) := by
  obtain ⟨T, hT1, hc⟩ := cst_pi (k := 0) (by omega)
  obtain ⟨T', e', p1, p2⟩ := inP_spec (List.all_eq_true.1 pi_all 0 (List.mem_range.2 (by omega)))
  obtain rfl : T = T' := by rw [hT1] at e'; exact Option.some.inj e'
  have q1 : dq (aM T 0) (aE T 0) ≤ dq 3 0 := by
    rw [hc.qlo]
    refine (dq_le_iff _ _ _).2 ?_
    have h := Int.lt_of_le_of_lt p1 (show cPi < 4 * 2 ^ (500 - 0) by decide +kernel)
    have := Int.lt_of_mul_lt_mul_right h (Int.le_of_lt (pow2_pos _))
    omega
  have q2 : dq 4 0 ≤ dq (bM T 0) (bE T 0) := by
    rw [hc.qhi]
    refine (dq_le_iff _ _ _).2 ?_
    have h := Int.lt_of_lt_of_le (show 3 * 2 ^ (500 - 0) < cPi by decide +kernel) p2
    have := Int.lt_of_mul_lt_mul_right h (Int.le_of_lt (pow2_pos _))
    omega
  have a3 : AbP 3 2 := by unfold AbP; decide
  have a4 : AbP 4 2 := by unfold AbP; decide
  obtain ⟨_, x2, x3, x4, _, x6⟩ := nf a3 (by omega)
  obtain ⟨_, y2, y3, y4, _, y6⟩ := nf a4 (by omega)
  obtain ⟨lo1, lo2, lo3⟩ := hc.lo
  obtain ⟨hi1, hi2, hi3⟩ := hc.hi
  have g1 : ∀ W, Below w.heap.size w W → Calls Tryz.prog 25 #[.int .i64 0] W (RetIE W (aM T 0) (aE T 0) (bM T 0) (bE T 0) 0) := fun W hW => cpi_yes 0 T W (by omega) (hT.mono hW) hT1
  have g2 := fun W => cpi_no (-1) W (by decide)
  have g3 := fun W => rof8_any 3 W (by omega) (by omega)
  have g4 := fun W => rof8_any 4 W (by omega) (by omega)
  have g5 : ∀ v W, IsI W v (aM T 0) (aE T 0) (bM T 0) (bE T 0) → Calls Tryz.prog 12 #[v, .int .i64 0] W (RetB W true) := fun v W h => by
    have s := s13tight_any (aM T 0) (aE T 0) (bM T 0) (bE T 0) 0 v W h (by omega) (by omega) (by omega) (by omega) lo3 hi3 (by omega) (by omega)
    rwa [show tgtB (aM T 0) (aE T 0) (bM T 0) (bE T 0) 0 = true from hc.tight] at s
  have g6 : ∀ v u W, IsI W v (mkM 3 0) (mkE 3 0) (mkM 4 0) (mkE 4 0) → IsI W u (aM T 0) (aE T 0) (bM T 0) (bE T 0) → Calls Tryz.prog 24 #[v, u] W (RetB W true) := fun v u W h k => by
    have s := r10within_any (mkM 3 0) (mkE 3 0) (mkM 4 0) (mkE 4 0) (aM T 0) (aE T 0) (bM T 0) (bE T 0) v u W h k (by omega) (by omega) (by omega) (by omega) (by omega) (by omega) (by omega) (by omega)
    rwa [(inB_iff _ _ _ _ _ _ _ _).2 ⟨by rw [x6]; exact q1, by rw [y6]; exact q2⟩] at s
  clear hT1 hc e' p1 p2 q1 q2 a3 a4 x2 x3 x4 x6 y2 y3 y4 y6 lo1 lo2 lo3 hi1 hi2 hi3 hT
  generalize aM T 0 = M at *
  generalize aE T 0 = E at *
  generalize bM T 0 = N at *
  generalize bE T 0 = G at *
  generalize mkM 3 0 = M3 at *
  generalize mkE 3 0 = E3 at *
  generalize mkM 4 0 = M4 at *
  generalize mkE 4 0 = E4 at *
  have G1 := Lib.hid g1
  have G2 := Lib.hid g2
  have G3 := Lib.hid g3
  have G4 := Lib.hid g4
  have G5 := Lib.hid g5
  have G6 := Lib.hid g6
  clear g1 g2 g3 g4 g5 g6
  go_enter Tryz.func8, Tryz.ntmps8
  go_wp2_with fail
  have L := Lq.mk0 w
  (try go_wp2_with fail)
  refine (G1.out _ L.below).mono ?_
  rintro e w1 ⟨vv, rfl, ii, be⟩
  obtain ⟨A1, c1, B1, d1, rfl, ia, ib⟩ := ii.form
  replace L := ((L.step be).n ib).n ia
  clear be ii ia ib
  replace L := L.varI w1.heap.size rfl (ng M) A1 (zl M) c1 E (ng N) B1 (zl N) d1 G
  have cel00 := L.b0.c60
  have cel01 := L.b0.c61
  have cel02 := L.b0.c62
  have cel03 := L.b0.c63
  have cel04 := L.b0.c64
  have cel05 := L.b0.c65
  go_wp2_with fail
  clear cel00 cel01 cel02 cel03 cel04 cel05
  obtain ⟨b1, hb1⟩ : ∃ g9, w1.heap.size = g9 := ⟨_, rfl⟩
  rw [hb1] at L ⊢
  clear hb1
  refine (G2.out _).mono ?_
  rintro e w2 ⟨vv, rfl, ii, be⟩
  obtain ⟨A2, c2, B2, d2, rfl, ia, ib⟩ := ii.form
  replace L := ((L.step be).n ib).n ia
  clear be ii ia ib
  have hl2 := L.b0.lt
  replace L := L.varI w2.heap.size rfl (ng 0) A2 (zl 0) c2 0 (ng 0) B2 (zl 0) d2 0
  have cel00 := L.b0.c60
  have cel01 := L.b0.c61
  have cel02 := L.b0.c62
  have cel03 := L.b0.c63
  have cel04 := L.b0.c64
  have cel05 := L.b0.c65
  go_wp2_with fail
  clear cel00 cel01 cel02 cel03 cel04 cel05
  obtain ⟨b2, hb2⟩ : ∃ g9, w2.heap.size = g9 := ⟨_, rfl⟩
  rw [hb2] at L hl2 ⊢
  clear hb2
  refine (G3.out _).mono ?_
  rintro e w3 ⟨v3, rfl, id, be⟩
  obtain ⟨A3, c3, rfl, _, in9⟩ := id.form
  replace L := (L.step be).n in9
  clear be id in9
  (try go_wp2_with fail)
  refine (G4.out _).mono ?_
  rintro e w4 ⟨v4, rfl, id, be⟩
  obtain ⟨A4, c4, rfl, _, in9⟩ := id.form
  replace L := (L.step be).n in9
  clear be id in9
  have hl3 := L.tl.b0.lt
  replace L := L.varI w4.heap.size rfl (ng M3) A3 (zl M3) c3 E3 (ng M4) A4 (zl M4) c4 E4
  have cel00 := L.b0.c60
  have cel01 := L.b0.c61
  have cel02 := L.b0.c62
  have cel03 := L.b0.c63
  have cel04 := L.b0.c64
  have cel05 := L.b0.c65
  have cel20 := L.tl.tl.b0.c60
  have cel21 := L.tl.tl.b0.c61
  have cel22 := L.tl.tl.b0.c62
  have cel23 := L.tl.tl.b0.c63
  have cel24 := L.tl.tl.b0.c64
  have cel25 := L.tl.tl.b0.c65
  go_wp2_with fail
  clear cel00 cel01 cel02 cel03 cel04 cel05 cel20 cel21 cel22 cel23 cel24 cel25
  obtain ⟨b3, hb3⟩ : ∃ g9, w4.heap.size = g9 := ⟨_, rfl⟩
  rw [hb3] at L hl3 ⊢
  clear hb3
  refine (G5.out _ _ (isI_n (m := M) (e := E) (n := N) (f := G) (s := .slice A1 (zl M) c1) (t := .slice B1 (zl N) d1) (L.getN (by simp)) (L.getN (by simp)))).mono ?_
  rintro e w5 ⟨rfl, be⟩
  replace L := L.step be
  clear be
  have cel00 := L.b0.c60
  have cel01 := L.b0.c61
  have cel02 := L.b0.c62
  have cel03 := L.b0.c63
  have cel04 := L.b0.c64
  have cel05 := L.b0.c65
  have cel20 := L.tl.tl.b0.c60
  have cel21 := L.tl.tl.b0.c61
  have cel22 := L.tl.tl.b0.c62
  have cel23 := L.tl.tl.b0.c63
  have cel24 := L.tl.tl.b0.c64
  have cel25 := L.tl.tl.b0.c65
  (try go_wp2_with fail)
  refine (G6.out _ _ _ (isI_n (m := M3) (e := E3) (n := M4) (f := E4) (s := .slice A3 (zl M3) c3) (t := .slice A4 (zl M4) c4) (L.getN (by simp)) (L.getN (by simp))) (isI_n (m := M) (e := E) (n := N) (f := G) (s := .slice A1 (zl M) c1) (t := .slice B1 (zl N) d1) (L.getN (by simp)) (L.getN (by simp)))).mono ?_
  rintro e w6 ⟨rfl, be⟩
  clear cel00 cel01 cel02 cel03 cel04 cel05 cel20 cel21 cel22 cel23 cel24 cel25
  replace L := L.step be
  clear be
  (try go_wp2_with fail)
  (try go_ret)
  exact ⟨rfl, L.below⟩

set_option maxHeartbeats 8000000 in
theorem ctight_any (m e n f k : Int) (vx : Value) (w : World) (hx : IsI w vx m e n f) (lm : zl m ≤ 1000) (ln : zl n ≤ 1000) (he : -20000 ≤ e ∧ e ≤ 20000) (hf : -20000 ≤ f ∧ f ≤ 20000) (hv : Dv m e) (hv2 : Dv n f) (hk1 : -9223372036854775808 ≤ k) (hk2 : k ≤ 9223372036854775807) (hT9 : Tab w) :
    Calls Tryz.prog 16 #[vx, .int .i64 k] w (RetB w (tgtB m e n f k)) := by
  obtain ⟨A, c, B, d, rfl, hn1, hn2⟩ := hx.form
  have L0 := ((Lq.mk0 w).n hn2).n hn1
  have hp := fun W => cperm_any k W
  have h0 := fun v W h => i10valid_any m e n f v W h lm ln (by omega) (by omega) hv hv2
  have h1 := fun v W h => gon_any m e k v W h lm (by omega) (by omega)
  have h2 := fun v W h => gon_any n f k v W h ln (by omega) (by omega)
  have h3 := fun v W h (hW : Below w.heap.size w W) => i10width_any m e n f v W h lm ln he hf (hT9.mono hW)
  have zA := zl_addS n f (-m) e 20000 (by omega) (by omega)
  have zN := zl_neg m
  have zM := zl_mk (addS n f (-m) e) (min f e)
  have hr : wdR m e n f = 0 → zl (wdM m e n f) ≤ 10000 ∧ -100000 ≤ wdE m e n f ∧ wdE m e n f ≤ 100000 := fun h => by
    have := dv_bound (mk_ok h)
    unfold wdM wdE
    omega
  rw [show mkM (addS n f (-m) e) (min f e) = wdM m e n f from rfl, show mkE (addS n f (-m) e) (min f e) = wdE m e n f from rfl, show mkR (addS n f (-m) e) (min f e) = wdR m e n f from rfl] at h3
  have hu : 0 ≤ k → k ≤ 4224 → zl (gM 1 (k - 1)) ≤ 10000 ∧ -100000 ≤ gE 1 (k - 1) ∧ gE 1 (k - 1) ≤ 100000 := fun a b => by
    have hp : permB (k - 1) = true := by
      unfold permB
      rw [decide_eq_true (show -2048 ≤ k - 1 by omega), decide_eq_true (show k - 1 ≤ 8192 by omega)]
      rfl
    obtain ⟨e1, e2, _⟩ := g_yes hp 1
    rw [e1, e2]
    have z1 : zl 1 ≤ 1 := len_le1 (by omega)
    have z2 := zl_mk 1 (-(k - 1))
    have hf : mkR 1 (-(k - 1)) = 0 := mk_fits5 (by omega) (by omega) (by omega)
    have := dv_bound (mk_ok hf)
    omega
  have h5 := fun (a : 0 ≤ k) (b : k ≤ 4224) (r : wdR m e n f = 0) v u W g h => dcmp_any (wdM m e n f) (wdE m e n f) (gM 1 (k - 1)) (gE 1 (k - 1)) v u W g h (hr r).1 (hu a b).1 (hr r).2 (hu a b).2
  have h4 := fun (a : 0 ≤ k) (b : k ≤ 4224) W (hW : Below w.heap.size w W) => gunit_any (k - 1) W (by omega) (by omega) (hT9.mono hW)
  have HT := Lib.hid (rfl : tgtB m e n f k = tgtB m e n f k)
  generalize hT : tgtB m e n f k = T at HT ⊢
  unfold tgtB at hT
  rw [← Bool.and_assoc, show (decide (0 ≤ k) && decide (k ≤ 4224)) = okW k from rfl] at hT
  have hok : okW k = true → 0 ≤ k ∧ k ≤ 4224 := fun h => by
    unfold okW at h
    rw [Bool.and_eq_true] at h
    exact ⟨of_decide_eq_true h.1, of_decide_eq_true h.2⟩
  rw [show dcm (wdM m e n f) (wdE m e n f) (gM 1 (k - 1)) (gE 1 (k - 1)) = cmpI (wdM m e n f * 2 ^ (wdE m e n f - min (wdE m e n f) (gE 1 (k - 1))).toNat) (gM 1 (k - 1) * 2 ^ (gE 1 (k - 1) - min (wdE m e n f) (gE 1 (k - 1))).toNat) from rfl] at hT
  generalize cmpI (wdM m e n f * 2 ^ (wdE m e n f - min (wdE m e n f) (gE 1 (k - 1))).toNat) (gM 1 (k - 1) * 2 ^ (gE 1 (k - 1) - min (wdE m e n f) (gE 1 (k - 1))).toNat) = x at *
  generalize wdM m e n f = M at *
  generalize wdE m e n f = E at *
  generalize wdR m e n f = R at *
  generalize gM 1 (k - 1) = M2 at *
  generalize gE 1 (k - 1) = E2 at *
  generalize gR 1 (k - 1) = R2 at *
  generalize decide (dcm m e n f ≤ 0) = bv at *
  generalize onB m e k = bl at *
  generalize onB n f k = bh at *
  have H0 := Lib.hid h0
  have H1 := Lib.hid h1
  have H2 := Lib.hid h2
  have H3 := Lib.hid h3
  have H4 := Lib.hid h4
  have H5 := Lib.hid h5
  clear h0 h1 h2 h3 h4 h5 zA zN zM hr hu HT lm ln he hf hv hv2 hn1 hn2 hT9
  obtain ⟨z, hz⟩ : ∃ z, decide (x ≤ 0) = z := ⟨_, rfl⟩
  rw [hz] at hT
  cases bk : okW k
  · rw [bk] at hT hp
    have HT := Lib.hid hT
    have HP := Lib.hid hp
    clear hT hp hok
    have hT := HT.out
    simp only [Bool.true_and, Bool.false_and] at hT
    subst hT
    
    go_enter Tryz.func16, Tryz.ntmps16
    go_wp2_with fail
    have L := (L0.varI (w.heap.size) (by simp) (ng m) A (zl m) c e (ng n) B (zl n) d f)
    have c00 := L.b0.c60
    have c01 := L.b0.c61
    have c02 := L.b0.c62
    have c03 := L.b0.c63
    have c04 := L.b0.c64
    have c05 := L.b0.c65
    (try go_wp2_with fail)
    refine (HP.out _).mono ?_
    rintro e9 w' ⟨rfl, rfl⟩
    (try go_wp2_with fail)
    (try go_ret)
    exact ⟨rfl, L.below⟩
  · obtain ⟨hb0, hb1⟩ := hok bk
    rw [bk] at hT hp
    have HT := Lib.hid hT
    have HP := Lib.hid hp
    clear hT hp hok
    have w1 : IntKind.i64.wrap (k - 1) = k - 1 := by rw [IntKind.wrap_i64]; omega
    cases bv
    · skip
      have hT := HT.out
      simp only [Bool.true_and, Bool.false_and] at hT
      subst hT
      
      go_enter Tryz.func16, Tryz.ntmps16
      go_wp2_with fail
      have L := (L0.varI (w.heap.size) (by simp) (ng m) A (zl m) c e (ng n) B (zl n) d f)
      have c00 := L.b0.c60
      have c01 := L.b0.c61
      have c02 := L.b0.c62
      have c03 := L.b0.c63
      have c04 := L.b0.c64
      have c05 := L.b0.c65
      (try go_wp2_with fail)
      refine (HP.out _).mono ?_
      rintro e9 w' ⟨rfl, rfl⟩
      (try go_wp2_with fail)
      refine (H0.out _ _ (isI_n (m := m) (e := e) (n := n) (f := f) (L.getN (by simp)) (L.getN (by simp)))).mono ?_
      rintro e w1 ⟨rfl, be⟩
      clear c00 c01 c02 c03 c04 c05
      replace L := L.step be
      clear be
      have c00 := L.b0.c60
      have c01 := L.b0.c61
      have c02 := L.b0.c62
      have c03 := L.b0.c63
      have c04 := L.b0.c64
      have c05 := L.b0.c65
      (try go_wp2_with fail)
      (try go_ret)
      exact ⟨rfl, L.below⟩
    · cases bl
      · skip
        have hT := HT.out
        simp only [Bool.true_and, Bool.false_and] at hT
        subst hT
        
        go_enter Tryz.func16, Tryz.ntmps16
        go_wp2_with fail
        have L := (L0.varI (w.heap.size) (by simp) (ng m) A (zl m) c e (ng n) B (zl n) d f)
        have c00 := L.b0.c60
        have c01 := L.b0.c61
        have c02 := L.b0.c62
        have c03 := L.b0.c63
        have c04 := L.b0.c64
        have c05 := L.b0.c65
        (try go_wp2_with fail)
        refine (HP.out _).mono ?_
        rintro e9 w' ⟨rfl, rfl⟩
        (try go_wp2_with fail)
        refine (H0.out _ _ (isI_n (m := m) (e := e) (n := n) (f := f) (L.getN (by simp)) (L.getN (by simp)))).mono ?_
        rintro e w1 ⟨rfl, be⟩
        clear c00 c01 c02 c03 c04 c05
        replace L := L.step be
        clear be
        have c00 := L.b0.c60
        have c01 := L.b0.c61
        have c02 := L.b0.c62
        have c03 := L.b0.c63
        have c04 := L.b0.c64
        have c05 := L.b0.c65
        (try go_wp2_with fail)
        refine (H1.out _ _ (isD_n (m := m) (e := e) (s := .slice A (zl m) c) (L.getN (by simp)))).mono ?_
        rintro e w2 ⟨rfl, be⟩
        clear c00 c01 c02 c03 c04 c05
        replace L := L.step be
        clear be
        have c00 := L.b0.c60
        have c01 := L.b0.c61
        have c02 := L.b0.c62
        have c03 := L.b0.c63
        have c04 := L.b0.c64
        have c05 := L.b0.c65
        (try go_wp2_with fail)
        (try go_ret)
        exact ⟨rfl, L.below⟩
      · cases bh
        · skip
          have hT := HT.out
          simp only [Bool.true_and, Bool.false_and] at hT
          subst hT
          
          go_enter Tryz.func16, Tryz.ntmps16
          go_wp2_with fail
          have L := (L0.varI (w.heap.size) (by simp) (ng m) A (zl m) c e (ng n) B (zl n) d f)
          have c00 := L.b0.c60
          have c01 := L.b0.c61
          have c02 := L.b0.c62
          have c03 := L.b0.c63
          have c04 := L.b0.c64
          have c05 := L.b0.c65
          (try go_wp2_with fail)
          refine (HP.out _).mono ?_
          rintro e9 w' ⟨rfl, rfl⟩
          (try go_wp2_with fail)
          refine (H0.out _ _ (isI_n (m := m) (e := e) (n := n) (f := f) (L.getN (by simp)) (L.getN (by simp)))).mono ?_
          rintro e w1 ⟨rfl, be⟩
          clear c00 c01 c02 c03 c04 c05
          replace L := L.step be
          clear be
          have c00 := L.b0.c60
          have c01 := L.b0.c61
          have c02 := L.b0.c62
          have c03 := L.b0.c63
          have c04 := L.b0.c64
          have c05 := L.b0.c65
          (try go_wp2_with fail)
          refine (H1.out _ _ (isD_n (m := m) (e := e) (s := .slice A (zl m) c) (L.getN (by simp)))).mono ?_
          rintro e w2 ⟨rfl, be⟩
          clear c00 c01 c02 c03 c04 c05
          replace L := L.step be
          clear be
          have c00 := L.b0.c60
          have c01 := L.b0.c61
          have c02 := L.b0.c62
          have c03 := L.b0.c63
          have c04 := L.b0.c64
          have c05 := L.b0.c65
          (try go_wp2_with fail)
          refine (H2.out _ _ (isD_n (m := n) (e := f) (s := .slice B (zl n) d) (L.getN (by simp)))).mono ?_
          rintro e w3 ⟨rfl, be⟩
          clear c00 c01 c02 c03 c04 c05
          replace L := L.step be
          clear be
          have c00 := L.b0.c60
          have c01 := L.b0.c61
          have c02 := L.b0.c62
          have c03 := L.b0.c63
          have c04 := L.b0.c64
          have c05 := L.b0.c65
          (try go_wp2_with fail)
          (try go_ret)
          exact ⟨rfl, L.below⟩
        · cases br : decide (R = 0)
          · have hT := HT.out
            rw [br] at hT
            have HT := Lib.hid hT
            have hbr : ¬ R = 0 := of_decide_eq_false br
            have q3 : (R == 0) = false := by rw [beq_eq_false_iff_ne]; exact hbr
            have hT := HT.out
            simp only [Bool.true_and, Bool.false_and] at hT
            subst hT
            
            go_enter Tryz.func16, Tryz.ntmps16
            go_wp2_with fail
            have L := (L0.varI (w.heap.size) (by simp) (ng m) A (zl m) c e (ng n) B (zl n) d f)
            have c00 := L.b0.c60
            have c01 := L.b0.c61
            have c02 := L.b0.c62
            have c03 := L.b0.c63
            have c04 := L.b0.c64
            have c05 := L.b0.c65
            (try go_wp2_with fail)
            refine (HP.out _).mono ?_
            rintro e9 w' ⟨rfl, rfl⟩
            (try go_wp2_with fail)
            refine (H0.out _ _ (isI_n (m := m) (e := e) (n := n) (f := f) (L.getN (by simp)) (L.getN (by simp)))).mono ?_
            rintro e w1 ⟨rfl, be⟩
            clear c00 c01 c02 c03 c04 c05
            replace L := L.step be
            clear be
            have c00 := L.b0.c60
            have c01 := L.b0.c61
            have c02 := L.b0.c62
            have c03 := L.b0.c63
            have c04 := L.b0.c64
            have c05 := L.b0.c65
            (try go_wp2_with fail)
            refine (H1.out _ _ (isD_n (m := m) (e := e) (s := .slice A (zl m) c) (L.getN (by simp)))).mono ?_
            rintro e w2 ⟨rfl, be⟩
            clear c00 c01 c02 c03 c04 c05
            replace L := L.step be
            clear be
            have c00 := L.b0.c60
            have c01 := L.b0.c61
            have c02 := L.b0.c62
            have c03 := L.b0.c63
            have c04 := L.b0.c64
            have c05 := L.b0.c65
            (try go_wp2_with fail)
            refine (H2.out _ _ (isD_n (m := n) (e := f) (s := .slice B (zl n) d) (L.getN (by simp)))).mono ?_
            rintro e w3 ⟨rfl, be⟩
            clear c00 c01 c02 c03 c04 c05
            replace L := L.step be
            clear be
            have c00 := L.b0.c60
            have c01 := L.b0.c61
            have c02 := L.b0.c62
            have c03 := L.b0.c63
            have c04 := L.b0.c64
            have c05 := L.b0.c65
            (try go_wp2_with fail)
            refine (H3.out _ _ (isI_n (m := m) (e := e) (n := n) (f := f) (L.getN (by simp)) (L.getN (by simp))) L.below).mono ?_
            rintro e w4 ⟨vv, rfl, id, be⟩
            clear c00 c01 c02 c03 c04 c05
            obtain ⟨A2, c2, rfl, _, in9⟩ := id.form
            replace L := (L.step be).n in9
            clear be id in9
            have hl0 := L.b0.lt
            replace L := L.varD w4.heap.size rfl (ng M) A2 (zl M) c2 E
            have c00 := L.b0.c30
            have c01 := L.b0.c31
            have c02 := L.b0.c32
            go_wp2_with fail
            clear c00 c01 c02
            obtain ⟨g1, hg1⟩ : ∃ g9, w4.heap.size = g9 := ⟨_, rfl⟩
            rw [hg1] at L hl0 ⊢
            clear hg1
            refine (H4.out hb0 hb1 _ L.below).mono ?_
            rintro e w5 ⟨vv, rfl, id, be⟩
            obtain ⟨A3, c3, rfl, _, in9⟩ := id.form
            replace L := (L.step be).n in9
            clear be id in9
            have hl1 := L.b0.lt
            replace L := L.varD w5.heap.size rfl (ng M2) A3 (zl M2) c3 E2
            have c00 := L.b0.c30
            have c01 := L.b0.c31
            have c02 := L.b0.c32
            have c10 := L.tl.b0.c30
            have c11 := L.tl.b0.c31
            have c12 := L.tl.b0.c32
            go_wp2_with fail
            (try go_ret)
            exact ⟨rfl, L.below⟩
          · have hT := HT.out
            rw [br] at hT
            have HT := Lib.hid hT
            have hbr : R = 0 := of_decide_eq_true br
            have H6 := Lib.hid (fun v u W g h => H5.out hb0 hb1 hbr v u W g h)
            subst hbr
            have hT := HT.out
            simp only [Bool.true_and, Bool.false_and] at hT
            subst hT
            subst hz
            
            go_enter Tryz.func16, Tryz.ntmps16
            go_wp2_with fail
            have L := (L0.varI (w.heap.size) (by simp) (ng m) A (zl m) c e (ng n) B (zl n) d f)
            have c00 := L.b0.c60
            have c01 := L.b0.c61
            have c02 := L.b0.c62
            have c03 := L.b0.c63
            have c04 := L.b0.c64
            have c05 := L.b0.c65
            (try go_wp2_with fail)
            refine (HP.out _).mono ?_
            rintro e9 w' ⟨rfl, rfl⟩
            (try go_wp2_with fail)
            refine (H0.out _ _ (isI_n (m := m) (e := e) (n := n) (f := f) (L.getN (by simp)) (L.getN (by simp)))).mono ?_
            rintro e w1 ⟨rfl, be⟩
            clear c00 c01 c02 c03 c04 c05
            replace L := L.step be
            clear be
            have c00 := L.b0.c60
            have c01 := L.b0.c61
            have c02 := L.b0.c62
            have c03 := L.b0.c63
            have c04 := L.b0.c64
            have c05 := L.b0.c65
            (try go_wp2_with fail)
            refine (H1.out _ _ (isD_n (m := m) (e := e) (s := .slice A (zl m) c) (L.getN (by simp)))).mono ?_
            rintro e w2 ⟨rfl, be⟩
            clear c00 c01 c02 c03 c04 c05
            replace L := L.step be
            clear be
            have c00 := L.b0.c60
            have c01 := L.b0.c61
            have c02 := L.b0.c62
            have c03 := L.b0.c63
            have c04 := L.b0.c64
            have c05 := L.b0.c65
            (try go_wp2_with fail)
            refine (H2.out _ _ (isD_n (m := n) (e := f) (s := .slice B (zl n) d) (L.getN (by simp)))).mono ?_
            rintro e w3 ⟨rfl, be⟩
            clear c00 c01 c02 c03 c04 c05
            replace L := L.step be
            clear be
            have c00 := L.b0.c60
            have c01 := L.b0.c61
            have c02 := L.b0.c62
            have c03 := L.b0.c63
            have c04 := L.b0.c64
            have c05 := L.b0.c65
            (try go_wp2_with fail)
            refine (H3.out _ _ (isI_n (m := m) (e := e) (n := n) (f := f) (L.getN (by simp)) (L.getN (by simp))) L.below).mono ?_
            rintro e w4 ⟨vv, rfl, id, be⟩
            clear c00 c01 c02 c03 c04 c05
            obtain ⟨A2, c2, rfl, _, in9⟩ := id.form
            replace L := (L.step be).n in9
            clear be id in9
            have hl0 := L.b0.lt
            replace L := L.varD w4.heap.size rfl (ng M) A2 (zl M) c2 E
            have c00 := L.b0.c30
            have c01 := L.b0.c31
            have c02 := L.b0.c32
            go_wp2_with fail
            clear c00 c01 c02
            obtain ⟨g1, hg1⟩ : ∃ g9, w4.heap.size = g9 := ⟨_, rfl⟩
            rw [hg1] at L hl0 ⊢
            clear hg1
            refine (H4.out hb0 hb1 _ L.below).mono ?_
            rintro e w5 ⟨vv, rfl, id, be⟩
            obtain ⟨A3, c3, rfl, _, in9⟩ := id.form
            replace L := (L.step be).n in9
            clear be id in9
            have hl1 := L.b0.lt
            replace L := L.varD w5.heap.size rfl (ng M2) A3 (zl M2) c3 E2
            have c00 := L.b0.c30
            have c01 := L.b0.c31
            have c02 := L.b0.c32
            have c10 := L.tl.b0.c30
            have c11 := L.tl.b0.c31
            have c12 := L.tl.b0.c32
            go_wp2_with fail
            clear c00 c01 c02 c10 c11 c12
            obtain ⟨g2, hg2⟩ : ∃ g9, w5.heap.size = g9 := ⟨_, rfl⟩
            rw [hg2] at L hl1 ⊢
            clear hg2
            refine (H6.out _ _ _ (isD_n (m := M) (e := E) (s := .slice A2 (zl M) c2) (L.getN (by simp))) (isD_n (m := M2) (e := E2) (s := .slice A3 (zl M2) c3) (L.getN (by simp)))).mono ?_
            rintro e w6 ⟨rfl, be⟩
            replace L := L.step be
            clear be
            (try go_wp2_with fail)
            (try go_ret)
            exact ⟨rfl, L.below⟩

theorem plainI3 (a b c : Int) : Plain #[.int .i64 a, .int .i64 b, .int .i64 c] := fun j x => by
  match j with
  | 0 => simp
  | 1 => simp
  | 2 => simp
  | j + 3 => simp
/-- The row of a variable is stored anew. -/
theorem Lq.row {w0 w : World} {ns : List (Value × Nat)} {zs : List (Value × Int)} {qs : List (Value × Int × Nat)} {bs : List (Nat × TypeId × Array Value)} {g : Nat} {t : TypeId} {cs : Array Value} (h : Lq w0 w ns zs qs ((g, t, cs) :: bs)) (hg : w0.heap.size ≤ g) (hd : ∀ p ∈ bs, p.1 ≠ g) (c : Array Value) (hp : Plain c) : Lq w0 (w.setRow g c) ns zs qs ((g, t, c) :: bs) := by
  have hgl := h.b0.lt
  have hso : ∀ k, k ≠ g → (w.setRow g c).heap[k]? = w.heap[k]? := fun k hk => by
    unfold World.setRow
    simp only
    rw [Array.getElem?_modify, if_neg (fun e => hk e.symm)]
  have hss : (w.setRow g c).heap.size = w.heap.size := by
    unfold World.setRow
    simp
  have hsg : (w.setRow g c).heap[g]? = some (.cells c t (0, 0)) := by
    unfold World.setRow
    simp only
    rw [Array.getElem?_modify, if_pos rfl, h.b0.1]
    rfl
  have hN : ∀ {v : Value} {x : Nat}, IsN w v x → IsN (w.setRow g c) v x := fun {v x} hv => by
    obtain ⟨A, n, k, e, hs⟩ := hv
    refine ⟨A, n, k, e, ⟨hs.len, hs.cap, hs.most, hs.small, fun hn => ?_⟩⟩
    obtain ⟨b, off, h1, h2, h3⟩ := hs.place hn
    have hne : b ≠ g := by
      rintro rfl
      have h4 := h3 0 hn
      rw [h.b0.cell] at h4
      exact h.b0.2 _ _ h4
    refine ⟨b, off, h1, by rw [hss]; exact h2, fun i hi => ?_⟩
    rw [World.cell?_of_block (w := w) (a := ⟨b, off + i, none⟩) (hso b hne)]
    exact h3 i hi
  refine ⟨?_, fun p hp2 => hN (h.ns p hp2), fun p hp2 => ?_, fun p hp2 => ?_, all_cons (P := fun p : Nat × TypeId × Array Value => Var _ p.1 p.2.1 p.2.2) ⟨hsg, hp⟩ (fun p hp2 => ⟨?_, (h.bs p (List.mem_cons_of_mem _ hp2)).2⟩)⟩
  · exact h.below.trans ⟨rfl, rfl, rfl, by rw [hss]; exact Nat.le_refl _, fun k hk => hso k (by omega)⟩
  · obtain ⟨s, e, hs⟩ := h.zs p hp2
    exact ⟨s, e, hN hs⟩
  · obtain ⟨s, r, e, hs, hr⟩ := h.qs p hp2
    exact ⟨s, r, e, hN hs, hN hr⟩
  · rw [hso _ (hd p hp2)]
    exact (h.bs p (List.mem_cons_of_mem _ hp2)).1

theorem mk_val11 {m e : Int} {z : Nat} {M : Int} (h : mkR m e = 0) (hm : m ≠ 0) (hz : tz m.natAbs = z) (ho : oddM m = M) : mkM m e = M ∧ mkE m e = e + (z : Int) := by
  unfold mkM mkE
  rw [h, if_pos rfl, if_neg hm, if_pos rfl, ho]
  refine ⟨rfl, ?_⟩
  unfold oddE
  rw [hz]
theorem small11 {m : Int} (h : m.natAbs < 4294967296) : zl m ≤ 1900 := Nat.le_trans (len_le1 h) (by omega)
theorem mk_odd11 {M : Int} {z : Nat} {m e : Int} (hm : M * 2 ^ z = m) (ho : M.natAbs % 2 = 1) (hs : m.natAbs < 4294967296) (h1 : -4000 ≤ e) (h2 : e ≤ 4000) : mkM m e = M ∧ mkE m e = e + (z : Int) := by
  have h := mk_fits (m := m) (e := e) (small11 hs) h1 h2
  have hm0 : m ≠ 0 := by
    have hM : M ≠ 0 := fun h0 => by rw [h0] at ho; exact absurd ho (by decide)
    rw [← hm]
    exact Int.mul_ne_zero hM (pow2_ne z)
  have hz : tz m.natAbs = z := by rw [← hm, abs_shl]; exact tz_odd ho z
  have ho2 : oddM m = M := by rw [← hm]; exact odd_shl ho z
  exact mk_val11 h hm0 hz ho2
theorem dv_0 : Dv 0 0 := Or.inl ⟨rfl, rfl⟩
theorem zl_small {m : Int} (h : m.natAbs < 4294967296) : zl m ≤ 6 := Nat.le_trans (len_le1 h) (by omega)
theorem zl0 : zl 0 ≤ 6 := zl_small (by decide)
theorem mk_one (j : Nat) (hj : j ≤ 100) : mkM 1 (-(j : Int)) = 1 ∧ mkE 1 (-(j : Int)) = -(j : Int) ∧ mkR 1 (-(j : Int)) = 0 := by
  have h := mk_odd11 (M := 1) (z := 0) (m := 1) (e := -(j : Int)) (by decide) (by decide) (by decide) (by omega) (by omega)
  exact ⟨h.1, by rw [h.2]; omega, mk_fits (small11 (by decide)) (by omega) (by omega)⟩
/-- What Thin makes of the upper end: the lesser one of it and a number above the lower end. -/
def thM (m e n f : Int) (j : Nat) : Int := mkM (addS m e 1 (-(j : Int))) (min e (-(j : Int)))
def thE (m e n f : Int) (j : Nat) : Int := mkE (addS m e 1 (-(j : Int))) (min e (-(j : Int)))
def thN (m e n f : Int) (j : Nat) : Int := if dcm (thM m e n f j) (thE m e n f j) n f < 0 then thM m e n f j else n
def thF (m e n f : Int) (j : Nat) : Int := if dcm (thM m e n f j) (thE m e n f j) n f < 0 then thE m e n f j else f
theorem thin_ok {m e n f : Int} {j : Nat} (hj : j ≤ 100) (lm : zl m ≤ 6) (ln : zl n ≤ 6) (he : -60 ≤ e ∧ e ≤ 252) (hf : -60 ≤ f ∧ f ≤ 252) (hd : dcm m e n f ≤ 0) (hv : Dv n f) : mkR (addS m e 1 (-(j : Int))) (min e (-(j : Int))) = 0 ∧ zl (thM m e n f j) ≤ 25 ∧ (-3000 ≤ thE m e n f j ∧ thE m e n f j ≤ 3000) ∧ zl (thN m e n f j) ≤ 25 ∧ (-3000 ≤ thF m e n f j ∧ thF m e n f j ≤ 3000) ∧ dcm m e (thN m e n f j) (thF m e n f j) ≤ 0 ∧ dq (thN m e n f j) (thF m e n f j) ≤ dq n f ∧ Dv (thN m e n f j) (thF m e n f j) := by
  have z1 : zl 1 ≤ 6 := zl_small (by decide)
  have z0 := zl_addS m e 1 (-(j : Int)) 252 (by omega) (by omega)
  have r0 := mk_fits (m := addS m e 1 (-(j : Int))) (e := min e (-(j : Int))) (by omega) (by omega) (by omega)
  have z2 := zl_mk (addS m e 1 (-(j : Int))) (min e (-(j : Int)))
  have b1 := mkE_le (m := addS m e 1 (-(j : Int))) (e := min e (-(j : Int))) (K := 252) (by omega) (by omega)
  have e1 : zl (thM m e n f j) ≤ 25 := by unfold thM; omega
  have e2 : -3000 ≤ thE m e n f j ∧ thE m e n f j ≤ 3000 := by unfold thE; omega
  have d1 : dq (thM m e n f j) (thE m e n f j) = dq m e + dq 1 (-(j : Int)) := (dq_mk r0).trans (dq_add _ _ _ _)
  have d2 : dq m e ≤ dq (thM m e n f j) (thE m e n f j) := by
    rw [d1]
    have h := (Rat.add_le_add_left (c := dq m e)).2 (Rat.le_of_lt (dq_pos (-(j : Int))))
    rwa [Rat.add_zero] at h
  have v1 : Dv (thM m e n f j) (thE m e n f j) := mk_ok r0
  refine ⟨r0, e1, e2, ?_⟩
  unfold thN thF
  split
  · rename_i hlt
    exact ⟨e1, e2, (dcm_le _ _ _ _).2 d2, Rat.le_of_lt ((dcm_lt _ _ _ _).1 hlt), v1⟩
  · exact ⟨by omega, by omega, hd, Rat.le_refl, hv⟩

set_option maxHeartbeats 8000000 in
theorem thin_any (m e n f : Int) (j : Nat) (hj : j ≤ 100) (vx : Value) (w : World) (hx : IsI w vx m e n f) (lm : zl m ≤ 6) (ln : zl n ≤ 6) (he : -60 ≤ e ∧ e ≤ 252) (hf : -60 ≤ f ∧ f ≤ 252) (hd : dcm m e n f ≤ 0) (hv : Dv n f) :
    Calls Tryz.prog 18 #[vx, .int .i64 (j : Int)] w (RetI6 w m e (thN m e n f j) (thF m e n f j)) := by
  obtain ⟨A, c, B, d, rfl, hn1, hn2⟩ := hx.form
  have L0 := ((Lq.mk0 w).n hn2).n hn1
  obtain ⟨r0, zM, bE, _⟩ := thin_ok (j := j) hj lm ln he hf hd hv
  obtain ⟨o1, o2, o3⟩ := mk_one j hj
  have z1 : zl 1 ≤ 6 := zl_small (by decide)
  have g1 := fun W => rzof_any 1 W (by omega) (by omega)
  have g2 := fun v W h => rmake8_any 1 (-(j : Int)) v W h (by omega)
  rw [o1, o2, o3] at g2
  have g3 := fun v u W h1 h2 => radd8_any m e 1 (-(j : Int)) v u W h1 h2 (by omega) (by omega) (by omega) (by omega)
  rw [r0] at g3
  unfold thN thF
  unfold thM thE at *
  obtain ⟨M, hM⟩ : ∃ z, mkM (addS m e 1 (-(j : Int))) (min e (-(j : Int))) = z := ⟨_, rfl⟩
  obtain ⟨E, hE⟩ : ∃ z, mkE (addS m e 1 (-(j : Int))) (min e (-(j : Int))) = z := ⟨_, rfl⟩
  rw [hM, hE] at g3 ⊢
  rw [hM] at zM
  rw [hE] at bE
  have g4 := fun v u W h1 h2 => rcmp8_any M E n f v u W h1 h2 (by omega) (by omega) (by omega) (by omega)
  obtain ⟨x, hx9⟩ : ∃ z, dcm M E n f = z := ⟨_, rfl⟩
  rw [hx9]
  unfold dcm at hx9
  rw [hx9] at g4
  have hw : IntKind.i64.wrap (-(j : Int)) = -(j : Int) := by rw [IntKind.wrap_i64]; omega
  obtain ⟨jj, hjj⟩ : ∃ z, -(j : Int) = z := ⟨_, rfl⟩
  rw [hjj] at g2 g3
  replace hw : IntKind.i64.wrap (-(j : Int)) = jj := hw.trans hjj
  have G1 := Lib.hid g1
  have G2 := Lib.hid g2
  have G3 := Lib.hid g3
  have G4 := Lib.hid g4
  clear g1 g2 g3 g4 hM hE hx9 r0 zM bE o1 o2 o3 z1 hx hn1 hn2 lm ln he hf hd hv hj hjj
  by_cases q : x < 0
  · rw [if_pos q, if_pos q]
    have b1 : decide (x < 0) = true := decide_eq_true q
    clear q
    go_enter Tryz.func18, Tryz.ntmps18
    go_wp2_with fail
    have L := ((L0.varI (w.heap.size) (by simp) (ng m) A (zl m) c e (ng n) B (zl n) d f).varI (w.heap.size + 1) (by simp) false none 0 0 0 false none 0 0 0)
    have c00 := L.b0.c60
    have c01 := L.b0.c61
    have c02 := L.b0.c62
    have c03 := L.b0.c63
    have c04 := L.b0.c64
    have c05 := L.b0.c65
    have c10 := L.tl.b0.c60
    have c11 := L.tl.b0.c61
    have c12 := L.tl.b0.c62
    have c13 := L.tl.b0.c63
    have c14 := L.tl.b0.c64
    have c15 := L.tl.b0.c65
    (try go_wp2_with fail)
    refine (G1.out _).mono ?_
    rintro e w1 ⟨vv, rfl, iz, be⟩
    clear c00 c01 c02 c03 c04 c05 c10 c11 c12 c13 c14 c15
    replace L := (L.step be).z iz
    clear be iz
    have c00 := L.b0.c60
    have c01 := L.b0.c61
    have c02 := L.b0.c62
    have c03 := L.b0.c63
    have c04 := L.b0.c64
    have c05 := L.b0.c65
    have c10 := L.tl.b0.c60
    have c11 := L.tl.b0.c61
    have c12 := L.tl.b0.c62
    have c13 := L.tl.b0.c63
    have c14 := L.tl.b0.c64
    have c15 := L.tl.b0.c65
    (try go_wp2_with fail)
    refine (G2.out _ _ (L.getZ (by simp))).mono ?_
    rintro e w2 ⟨vv, rfl, id, be⟩
    clear c00 c01 c02 c03 c04 c05 c10 c11 c12 c13 c14 c15
    obtain ⟨A7, c7, rfl, _, in9⟩ := id.form
    replace L := (L.step be).n in9
    clear be id in9
    have hl7 := L.b0.lt
    replace L := L.varD w2.heap.size rfl (ng 1) A7 (zl 1) c7 jj
    have c00 := L.b0.c30
    have c01 := L.b0.c31
    have c02 := L.b0.c32
    have c20 := L.tl.tl.b0.c60
    have c21 := L.tl.tl.b0.c61
    have c22 := L.tl.tl.b0.c62
    have c23 := L.tl.tl.b0.c63
    have c24 := L.tl.tl.b0.c64
    have c25 := L.tl.tl.b0.c65
    go_wp2_with fail
    obtain ⟨gs, hg⟩ : ∃ g, w2.heap.size = g := ⟨_, rfl⟩
    rw [hg] at L hl7 c00 c01 c02 ⊢
    clear hg
    refine (G3.out _ _ _ (isD_n (m := m) (e := e) (s := .slice A (zl m) c) (L.getN (v := .slice A (zl m) c) (x := (m).natAbs) (by simp))) (isD_n (m := 1) (e := jj) (s := .slice A7 (zl 1) c7) (L.getN (by simp)))).mono ?_
    rintro e w3 ⟨vv, rfl, id, be⟩
    clear c00 c01 c02 c20 c21 c22 c23 c24 c25
    obtain ⟨A9, c9, rfl, _, in9⟩ := id.form
    replace L := (L.step be).n in9
    clear be id in9
    have hl9 := L.b0.lt
    replace L := L.varD w3.heap.size rfl (ng M) A9 (zl M) c9 E
    have c00 := L.b0.c30
    have c01 := L.b0.c31
    have c02 := L.b0.c32
    have c30 := L.tl.tl.tl.b0.c60
    have c31 := L.tl.tl.tl.b0.c61
    have c32 := L.tl.tl.tl.b0.c62
    have c33 := L.tl.tl.tl.b0.c63
    have c34 := L.tl.tl.tl.b0.c64
    have c35 := L.tl.tl.tl.b0.c65
    go_wp2_with fail
    obtain ⟨gh, hg⟩ : ∃ g, w3.heap.size = g := ⟨_, rfl⟩
    rw [hg] at L hl9 c00 c01 c02 ⊢
    clear hg
    refine (G4.out _ _ _ (isD_n (m := M) (e := E) (s := .slice A9 (zl M) c9) (L.getN (by simp))) (isD_n (m := n) (e := f) (s := .slice B (zl n) d) (L.getN (v := .slice B (zl n) d) (x := (n).natAbs) (by simp)))).mono ?_
    rintro e w4 ⟨rfl, be⟩
    clear c00 c01 c02 c30 c31 c32 c33 c34 c35
    replace L := L.step be
    clear be
    have hgs : w.heap.size + 1 < gs := by omega
    have hgh : gs < gh := by omega
    have c00 := L.b0.c30
    have c01 := L.b0.c31
    have c02 := L.b0.c32
    have P := L.pick [(w.heap.size, 31, #[.bool (ng m), .slice A (zl m) c, .int .i64 e, .bool (ng n), .slice B (zl n) d, .int .i64 f]), (w.heap.size + 1, 31, #[.bool false, .slice none 0 0, .int .i64 0, .bool false, .slice none 0 0, .int .i64 0])] (by simp)
    have x0 := P.b0.c60
    have y0 := P.b0.fr 0
    have u0 := P.tl.b0.c60
    have v0 := P.tl.b0.fr 0
    have x1 := P.b0.c61
    have y1 := P.b0.fr 1
    have u1 := P.tl.b0.c61
    have v1 := P.tl.b0.fr 1
    have x2 := P.b0.c62
    have y2 := P.b0.fr 2
    have u2 := P.tl.b0.c62
    have v2 := P.tl.b0.fr 2
    have x3 := P.b0.c63
    have y3 := P.b0.fr 3
    have u3 := P.tl.b0.c63
    have v3 := P.tl.b0.fr 3
    have x4 := P.b0.c64
    have y4 := P.b0.fr 4
    have u4 := P.tl.b0.c64
    have v4 := P.tl.b0.fr 4
    have x5 := P.b0.c65
    have y5 := P.b0.fr 5
    have u5 := P.tl.b0.c65
    have v5 := P.tl.b0.fr 5
    have LS : Lq _ _ _ _ _ ((w.heap.size, 31, #[.bool (ng m), .slice A (zl m) c, .int .i64 e, .bool (ng M), .slice A9 (zl M) c9, .int .i64 E]) :: _) := ((P.set (Nat.le_refl _) (by simp) 3 (.bool (ng M)) (by intro x e; cases e)).set (Nat.le_refl _) (by simp) 4 (.slice A9 (zl M) c9) (by intro x e; cases e)).set (Nat.le_refl _) (by simp) 5 (.int .i64 E) (by intro x e; cases e)
    have s0 := LS.b0.c60
    have t0 := LS.tl.b0.c60
    have p0 := LS.tl.b0.fr 0
    have s1 := LS.b0.c61
    have t1 := LS.tl.b0.c61
    have p1 := LS.tl.b0.fr 1
    have s2 := LS.b0.c62
    have t2 := LS.tl.b0.c62
    have p2 := LS.tl.b0.fr 2
    have s3 := LS.b0.c63
    have t3 := LS.tl.b0.c63
    have p3 := LS.tl.b0.fr 3
    have s4 := LS.b0.c64
    have t4 := LS.tl.b0.c64
    have p4 := LS.tl.b0.fr 4
    have s5 := LS.b0.c65
    have t5 := LS.tl.b0.c65
    have p5 := LS.tl.b0.fr 5
    go_wp2_with fail
    clear s0 t0 p0 x0 y0 u0 v0 s1 t1 p1 x1 y1 u1 v1 s2 t2 p2 x2 y2 u2 v2 s3 t3 p3 x3 y3 u3 v3 s4 t4 p4 x4 y4 u4 v4 s5 t5 p5 x5 y5 u5 v5
    replace L := LS.swap
    clear LS P
    clear c00 c01 c02
    have LP := L.putI (by omega) (by first | (simp; done) | (simp; omega)) (ng m) A (zl m) c e (ng M) A9 (zl M) c9 E
    have k0 := LP.b0.c60
    have k1 := LP.b0.c61
    have k2 := LP.b0.c62
    have k3 := LP.b0.c63
    have k4 := LP.b0.c64
    have k5 := LP.b0.c65
    unfold put6 at k0 k1 k2 k3 k4 k5
    exact bodyPost_ret (v := .agg #[.bool (ng m), .slice A (zl m) c, .int .i64 e, .bool (ng M), .slice A9 (zl M) c9, .int .i64 E]) (by simp [results, Tryz.results18, go_sem, k0, k1, k2, k3, k4, k5]) rfl ⟨_, rfl, isI_n (LP.getN (by simp)) (LP.getN (by simp)), LP.below⟩
  · rw [if_neg q, if_neg q]
    have b1 : decide (x < 0) = false := decide_eq_false q
    clear q
    go_enter Tryz.func18, Tryz.ntmps18
    go_wp2_with fail
    have L := ((L0.varI (w.heap.size) (by simp) (ng m) A (zl m) c e (ng n) B (zl n) d f).varI (w.heap.size + 1) (by simp) false none 0 0 0 false none 0 0 0)
    have c00 := L.b0.c60
    have c01 := L.b0.c61
    have c02 := L.b0.c62
    have c03 := L.b0.c63
    have c04 := L.b0.c64
    have c05 := L.b0.c65
    have c10 := L.tl.b0.c60
    have c11 := L.tl.b0.c61
    have c12 := L.tl.b0.c62
    have c13 := L.tl.b0.c63
    have c14 := L.tl.b0.c64
    have c15 := L.tl.b0.c65
    (try go_wp2_with fail)
    refine (G1.out _).mono ?_
    rintro e w1 ⟨vv, rfl, iz, be⟩
    clear c00 c01 c02 c03 c04 c05 c10 c11 c12 c13 c14 c15
    replace L := (L.step be).z iz
    clear be iz
    have c00 := L.b0.c60
    have c01 := L.b0.c61
    have c02 := L.b0.c62
    have c03 := L.b0.c63
    have c04 := L.b0.c64
    have c05 := L.b0.c65
    have c10 := L.tl.b0.c60
    have c11 := L.tl.b0.c61
    have c12 := L.tl.b0.c62
    have c13 := L.tl.b0.c63
    have c14 := L.tl.b0.c64
    have c15 := L.tl.b0.c65
    (try go_wp2_with fail)
    refine (G2.out _ _ (L.getZ (by simp))).mono ?_
    rintro e w2 ⟨vv, rfl, id, be⟩
    clear c00 c01 c02 c03 c04 c05 c10 c11 c12 c13 c14 c15
    obtain ⟨A7, c7, rfl, _, in9⟩ := id.form
    replace L := (L.step be).n in9
    clear be id in9
    have hl7 := L.b0.lt
    replace L := L.varD w2.heap.size rfl (ng 1) A7 (zl 1) c7 jj
    have c00 := L.b0.c30
    have c01 := L.b0.c31
    have c02 := L.b0.c32
    have c20 := L.tl.tl.b0.c60
    have c21 := L.tl.tl.b0.c61
    have c22 := L.tl.tl.b0.c62
    have c23 := L.tl.tl.b0.c63
    have c24 := L.tl.tl.b0.c64
    have c25 := L.tl.tl.b0.c65
    go_wp2_with fail
    obtain ⟨gs, hg⟩ : ∃ g, w2.heap.size = g := ⟨_, rfl⟩
    rw [hg] at L hl7 c00 c01 c02 ⊢
    clear hg
    refine (G3.out _ _ _ (isD_n (m := m) (e := e) (s := .slice A (zl m) c) (L.getN (v := .slice A (zl m) c) (x := (m).natAbs) (by simp))) (isD_n (m := 1) (e := jj) (s := .slice A7 (zl 1) c7) (L.getN (by simp)))).mono ?_
    rintro e w3 ⟨vv, rfl, id, be⟩
    clear c00 c01 c02 c20 c21 c22 c23 c24 c25
    obtain ⟨A9, c9, rfl, _, in9⟩ := id.form
    replace L := (L.step be).n in9
    clear be id in9
    have hl9 := L.b0.lt
    replace L := L.varD w3.heap.size rfl (ng M) A9 (zl M) c9 E
    have c00 := L.b0.c30
    have c01 := L.b0.c31
    have c02 := L.b0.c32
    have c30 := L.tl.tl.tl.b0.c60
    have c31 := L.tl.tl.tl.b0.c61
    have c32 := L.tl.tl.tl.b0.c62
    have c33 := L.tl.tl.tl.b0.c63
    have c34 := L.tl.tl.tl.b0.c64
    have c35 := L.tl.tl.tl.b0.c65
    go_wp2_with fail
    obtain ⟨gh, hg⟩ : ∃ g, w3.heap.size = g := ⟨_, rfl⟩
    rw [hg] at L hl9 c00 c01 c02 ⊢
    clear hg
    refine (G4.out _ _ _ (isD_n (m := M) (e := E) (s := .slice A9 (zl M) c9) (L.getN (by simp))) (isD_n (m := n) (e := f) (s := .slice B (zl n) d) (L.getN (v := .slice B (zl n) d) (x := (n).natAbs) (by simp)))).mono ?_
    rintro e w4 ⟨rfl, be⟩
    clear c00 c01 c02 c30 c31 c32 c33 c34 c35
    replace L := L.step be
    clear be
    have hgs : w.heap.size + 1 < gs := by omega
    have hgh : gs < gh := by omega
    replace L := L.pick [(w.heap.size + 1, 31, #[.bool false, .slice none 0 0, .int .i64 0, .bool false, .slice none 0 0, .int .i64 0]), (w.heap.size, 31, #[.bool (ng m), .slice A (zl m) c, .int .i64 e, .bool (ng n), .slice B (zl n) d, .int .i64 f])] (by simp)
    have c00 := L.b0.c60
    have f00 := L.b0.fr 0
    have c01 := L.b0.c61
    have f01 := L.b0.fr 1
    have c02 := L.b0.c62
    have f02 := L.b0.fr 2
    have c03 := L.b0.c63
    have f03 := L.b0.fr 3
    have c04 := L.b0.c64
    have f04 := L.b0.fr 4
    have c05 := L.b0.c65
    have f05 := L.b0.fr 5
    have c10 := L.tl.b0.c60
    have c11 := L.tl.b0.c61
    have c12 := L.tl.b0.c62
    have c13 := L.tl.b0.c63
    have c14 := L.tl.b0.c64
    have c15 := L.tl.b0.c65
    go_wp2_with fail
    have LP := L.putI (by omega) (by first | (simp; done) | (simp; omega)) (ng m) A (zl m) c e (ng n) B (zl n) d f
    have k0 := LP.b0.c60
    have k1 := LP.b0.c61
    have k2 := LP.b0.c62
    have k3 := LP.b0.c63
    have k4 := LP.b0.c64
    have k5 := LP.b0.c65
    unfold put6 at k0 k1 k2 k3 k4 k5
    exact bodyPost_ret (v := .agg #[.bool (ng m), .slice A (zl m) c, .int .i64 e, .bool (ng n), .slice B (zl n) d, .int .i64 f]) (by simp [results, Tryz.results18, go_sem, k0, k1, k2, k3, k4, k5]) rfl ⟨_, rfl, isI_n (LP.getN (by simp)) (LP.getN (by simp)), LP.below⟩


end Go.Proofs.YtfnklkdbieikeaaGreatDoor
