/- The reference's Tight. -/
import Derived.Test.YtfnklkdbieikeaaGreatDoorRefCoA
import Derived.Test.YtfnklkdbieikeaaGreatDoorBaseW
import Derived.Test.YtfnklkdbieikeaaGreatDoorRefGrB
import Derived.Test.YtfnklkdbieikeaaGreatDoorBaseM
import Derived.Deep.RegionHeld3
import Derived.Deep.DrawnRows
namespace Go.Proofs.YtfnklkdbieikeaaGreatDoor
open Go.RowKit
set_option linter.unusedVariables false
set_option linter.unusedSimpArgs false
set_option maxRecDepth 100000
attribute [local go_sem ↓] Go.wp_at_zero Go.wp_at_succ

theorem mk_fits5 {m e : Int} (h : zl m ≤ 1900) (h1 : -60000 ≤ e) (h2 : e ≤ 4000) : mkR m e = 0 := by
  unfold mkR
  rw [if_neg (by omega)]
  by_cases h0 : m = 0
  · rw [if_pos h0]
  · rw [if_neg h0]
    have ht := tz_le8 m.natAbs (by omega)
    have e1 : zl m = len m.natAbs := rfl
    have hb : blen (oddM m).natAbs ≤ 65536 := by
      have := blen_le_len (oddM m).natAbs
      have h3 := zl_odd m
      have e2 : zl (oddM m) = len (oddM m).natAbs := rfl
      omega
    have ho : bitB (oddM m).natAbs 0 = true := by
      obtain ⟨k, hk⟩ := tz_form (x := m.natAbs) (by omega)
      have hd : m.natAbs / 2 ^ tz m.natAbs = 2 * k + 1 := by
        have := Nat.mul_div_cancel_left (2 * k + 1) (Nat.pow_pos (n := tz m.natAbs) (show 0 < 2 by omega))
        rwa [← hk] at this
      unfold bitB
      rw [oddM_abs, hd, Nat.pow_zero, Nat.div_one]
      exact decide_eq_true (by omega)
    have hf : fits8 (oddM m) (oddE m e) = true := by
      unfold fits8 oddE
      rw [decide_eq_true hb, decide_eq_true (by omega), decide_eq_true (by omega), ho]
      rfl
    rw [hf]
    rfl
/-- The width of an interval, as Width returns it; which intervals are tight. -/
def wdM (m e n f : Int) : Int := mkM (addS n f (-m) e) (min f e)
def wdE (m e n f : Int) : Int := mkE (addS n f (-m) e) (min f e)
def wdR (m e n f : Int) : Int := mkR (addS n f (-m) e) (min f e)
def tgtB (m e n f k : Int) : Bool := decide (0 ≤ k) && (decide (k ≤ 4224) && (decide (dcm m e n f ≤ 0) && (onB m e k && (onB n f k && (decide (wdR m e n f = 0) && decide (dcm (wdM m e n f) (wdE m e n f) (gM 1 (k - 1)) (gE 1 (k - 1)) ≤ 0))))))

set_option maxHeartbeats 8000000 in
theorem s13tight_any (m e n f k : Int) (vx : Value) (w : World) (hx : IsI w vx m e n f) (lm : zl m ≤ 1000) (ln : zl n ≤ 1000) (he : -20000 ≤ e ∧ e ≤ 20000) (hf : -20000 ≤ f ∧ f ≤ 20000) (hv : Dv m e) (hv2 : Dv n f) (hk1 : -9223372036854775808 ≤ k) (hk2 : k ≤ 9223372036854775807) :
    Calls Tryz.prog 12 #[vx, .int .i64 k] w (RetB w (tgtB m e n f k)) := by
  obtain ⟨A, c, B, d, rfl, hn1, hn2⟩ := hx.form
  have L0 := ((Lq.mk0 w).n hn2).n hn1
  have h0 := fun v W h => r10valid_any m e n f v W h lm ln (by omega) (by omega) hv hv2
  have h1 := fun v W h => ron9_any m e k v W h (by omega) (by omega)
  have h2 := fun v W h => ron9_any n f k v W h (by omega) (by omega)
  have h3 := fun v W h => r10width_any m e n f v W h lm ln he hf
  have zA := zl_addS n f (-m) e 20000 (by omega) (by omega)
  have zN := zl_neg m
  have zM := zl_mk (addS n f (-m) e) (min f e)
  have hr : wdR m e n f = 0 → zl (wdM m e n f) ≤ 10000 ∧ -100000 ≤ wdE m e n f ∧ wdE m e n f ≤ 100000 := fun h => by
    have := dv_bound (mk_ok h)
    unfold wdM wdE
    omega
  rw [show mkM (addS n f (-m) e) (min f e) = wdM m e n f from rfl, show mkE (addS n f (-m) e) (min f e) = wdE m e n f from rfl, show mkR (addS n f (-m) e) (min f e) = wdR m e n f from rfl] at h3
  have hu : 0 ≤ k → k ≤ 4224 → zl (gM 1 (k - 1)) ≤ 10000 ∧ -100000 ≤ gE 1 (k - 1) ∧ gE 1 (k - 1) ≤ 100000 := fun a b => by
    have hp : permB (k - 1) = true := by
      unfold permB
      rw [decide_eq_true (show -2048 ≤ k - 1 by omega), decide_eq_true (show k - 1 ≤ 8192 by omega)]
      rfl
    obtain ⟨e1, e2, _⟩ := g_yes hp 1
    rw [e1, e2]
    have z1 : zl 1 ≤ 1 := len_le1 (by omega)
    have z2 := zl_mk 1 (-(k - 1))
    have hf : mkR 1 (-(k - 1)) = 0 := mk_fits5 (by omega) (by omega) (by omega)
    have := dv_bound (mk_ok hf)
    omega
  have h5 := fun (a : 0 ≤ k) (b : k ≤ 4224) (r : wdR m e n f = 0) v u W g h => rcmp8_any (wdM m e n f) (wdE m e n f) (gM 1 (k - 1)) (gE 1 (k - 1)) v u W g h (Nat.le_trans (hr r).1 (by omega)) (Nat.le_trans (hu a b).1 (by omega)) (hr r).2 (hu a b).2
  have h4 := fun (a : 0 ≤ k) (b : k ≤ 4224) W => runit9_any (k - 1) W (by omega) (by omega)
  have HT := Lib.hid (rfl : tgtB m e n f k = tgtB m e n f k)
  generalize hT : tgtB m e n f k = T at HT ⊢
  unfold tgtB at hT
  rw [show dcm (wdM m e n f) (wdE m e n f) (gM 1 (k - 1)) (gE 1 (k - 1)) = cmpI (wdM m e n f * 2 ^ (wdE m e n f - min (wdE m e n f) (gE 1 (k - 1))).toNat) (gM 1 (k - 1) * 2 ^ (gE 1 (k - 1) - min (wdE m e n f) (gE 1 (k - 1))).toNat) from rfl] at hT
  generalize cmpI (wdM m e n f * 2 ^ (wdE m e n f - min (wdE m e n f) (gE 1 (k - 1))).toNat) (gM 1 (k - 1) * 2 ^ (gE 1 (k - 1) - min (wdE m e n f) (gE 1 (k - 1))).toNat) = x at *
  generalize wdM m e n f = M at *
  generalize wdE m e n f = E at *
  generalize wdR m e n f = R at *
  generalize gM 1 (k - 1) = M2 at *
  generalize gE 1 (k - 1) = E2 at *
  generalize gR 1 (k - 1) = R2 at *
  generalize decide (dcm m e n f ≤ 0) = bv at *
  generalize onB m e k = bl at *
  generalize onB n f k = bh at *
  have H0 := Lib.hid h0
  have H1 := Lib.hid h1
  have H2 := Lib.hid h2
  have H3 := Lib.hid h3
  have H4 := Lib.hid h4
  have H5 := Lib.hid h5
  clear h0 h1 h2 h3 h4 h5 zA zN zM hr hu HT lm ln he hf hv hv2 hn1 hn2
  obtain ⟨z, hz⟩ : ∃ z, decide (x ≤ 0) = z := ⟨_, rfl⟩
  rw [hz] at hT
  have HT := Lib.hid hT
  clear hT
  cases b0 : decide (0 ≤ k)
  · rw [b0] at HT
    have hb0 : k < 0 := by have := of_decide_eq_false b0; omega
    have q0 : decide (k < 0) = true := decide_eq_true hb0
    have hT := HT.out
    simp only [Bool.true_and, Bool.false_and] at hT
    subst hT
    
    go_enter Tryz.func12, Tryz.ntmps12
    go_wp2_with fail
    have L := (L0.varI (w.heap.size) (by simp) (ng m) A (zl m) c e (ng n) B (zl n) d f)
    have c00 := L.b0.c60
    have c01 := L.b0.c61
    have c02 := L.b0.c62
    have c03 := L.b0.c63
    have c04 := L.b0.c64
    have c05 := L.b0.c65
    (try go_wp2_with fail)
    (try go_ret)
    exact ⟨rfl, L.below⟩
  · rw [b0] at HT
    have hb0 : 0 ≤ k := of_decide_eq_true b0
    have q0 : decide (k < 0) = false := decide_eq_false (by omega)
    have w1 : IntKind.i64.wrap (k - 1) = k - 1 := by rw [IntKind.wrap_i64]; omega
    cases b1 : decide (k ≤ 4224)
    · rw [b1] at HT
      have hb1 : 4224 < k := by have := of_decide_eq_false b1; omega
      have q1 : decide (4224 < k) = true := decide_eq_true hb1
      have hT := HT.out
      simp only [Bool.true_and, Bool.false_and] at hT
      subst hT
      
      go_enter Tryz.func12, Tryz.ntmps12
      go_wp2_with fail
      have L := (L0.varI (w.heap.size) (by simp) (ng m) A (zl m) c e (ng n) B (zl n) d f)
      have c00 := L.b0.c60
      have c01 := L.b0.c61
      have c02 := L.b0.c62
      have c03 := L.b0.c63
      have c04 := L.b0.c64
      have c05 := L.b0.c65
      (try go_wp2_with fail)
      (try go_ret)
      exact ⟨rfl, L.below⟩
    · rw [b1] at HT
      have hb1 : k ≤ 4224 := of_decide_eq_true b1
      have q1 : decide (4224 < k) = false := decide_eq_false (by omega)
      cases bv
      · skip
        have hT := HT.out
        simp only [Bool.true_and, Bool.false_and] at hT
        subst hT
        
        go_enter Tryz.func12, Tryz.ntmps12
        go_wp2_with fail
        have L := (L0.varI (w.heap.size) (by simp) (ng m) A (zl m) c e (ng n) B (zl n) d f)
        have c00 := L.b0.c60
        have c01 := L.b0.c61
        have c02 := L.b0.c62
        have c03 := L.b0.c63
        have c04 := L.b0.c64
        have c05 := L.b0.c65
        (try go_wp2_with fail)
        refine (H0.out _ _ (isI_n (m := m) (e := e) (n := n) (f := f) (L.getN (by simp)) (L.getN (by simp)))).mono ?_
        rintro e w1 ⟨rfl, be⟩
        clear c00 c01 c02 c03 c04 c05
        replace L := L.step be
        clear be
        have c00 := L.b0.c60
        have c01 := L.b0.c61
        have c02 := L.b0.c62
        have c03 := L.b0.c63
        have c04 := L.b0.c64
        have c05 := L.b0.c65
        (try go_wp2_with fail)
        (try go_ret)
        exact ⟨rfl, L.below⟩
      · cases bl
        · skip
          have hT := HT.out
          simp only [Bool.true_and, Bool.false_and] at hT
          subst hT
          
          go_enter Tryz.func12, Tryz.ntmps12
          go_wp2_with fail
          have L := (L0.varI (w.heap.size) (by simp) (ng m) A (zl m) c e (ng n) B (zl n) d f)
          have c00 := L.b0.c60
          have c01 := L.b0.c61
          have c02 := L.b0.c62
          have c03 := L.b0.c63
          have c04 := L.b0.c64
          have c05 := L.b0.c65
          (try go_wp2_with fail)
          refine (H0.out _ _ (isI_n (m := m) (e := e) (n := n) (f := f) (L.getN (by simp)) (L.getN (by simp)))).mono ?_
          rintro e w1 ⟨rfl, be⟩
          clear c00 c01 c02 c03 c04 c05
          replace L := L.step be
          clear be
          have c00 := L.b0.c60
          have c01 := L.b0.c61
          have c02 := L.b0.c62
          have c03 := L.b0.c63
          have c04 := L.b0.c64
          have c05 := L.b0.c65
          (try go_wp2_with fail)
          refine (H1.out _ _ (isD_n (m := m) (e := e) (s := .slice A (zl m) c) (L.getN (by simp)))).mono ?_
          rintro e w2 ⟨rfl, be⟩
          clear c00 c01 c02 c03 c04 c05
          replace L := L.step be
          clear be
          have c00 := L.b0.c60
          have c01 := L.b0.c61
          have c02 := L.b0.c62
          have c03 := L.b0.c63
          have c04 := L.b0.c64
          have c05 := L.b0.c65
          (try go_wp2_with fail)
          (try go_ret)
          exact ⟨rfl, L.below⟩
        · cases bh
          · skip
            have hT := HT.out
            simp only [Bool.true_and, Bool.false_and] at hT
            subst hT
            
            go_enter Tryz.func12, Tryz.ntmps12
            go_wp2_with fail
            have L := (L0.varI (w.heap.size) (by simp) (ng m) A (zl m) c e (ng n) B (zl n) d f)
            have c00 := L.b0.c60
            have c01 := L.b0.c61
            have c02 := L.b0.c62
            have c03 := L.b0.c63
            have c04 := L.b0.c64
            have c05 := L.b0.c65
            (try go_wp2_with fail)
            refine (H0.out _ _ (isI_n (m := m) (e := e) (n := n) (f := f) (L.getN (by simp)) (L.getN (by simp)))).mono ?_
            rintro e w1 ⟨rfl, be⟩
            clear c00 c01 c02 c03 c04 c05
            replace L := L.step be
            clear be
            have c00 := L.b0.c60
            have c01 := L.b0.c61
            have c02 := L.b0.c62
            have c03 := L.b0.c63
            have c04 := L.b0.c64
            have c05 := L.b0.c65
            (try go_wp2_with fail)
            refine (H1.out _ _ (isD_n (m := m) (e := e) (s := .slice A (zl m) c) (L.getN (by simp)))).mono ?_
            rintro e w2 ⟨rfl, be⟩
            clear c00 c01 c02 c03 c04 c05
            replace L := L.step be
            clear be
            have c00 := L.b0.c60
            have c01 := L.b0.c61
            have c02 := L.b0.c62
            have c03 := L.b0.c63
            have c04 := L.b0.c64
            have c05 := L.b0.c65
            (try go_wp2_with fail)
            refine (H2.out _ _ (isD_n (m := n) (e := f) (s := .slice B (zl n) d) (L.getN (by simp)))).mono ?_
            rintro e w3 ⟨rfl, be⟩
            clear c00 c01 c02 c03 c04 c05
            replace L := L.step be
            clear be
            have c00 := L.b0.c60
            have c01 := L.b0.c61
            have c02 := L.b0.c62
            have c03 := L.b0.c63
            have c04 := L.b0.c64
            have c05 := L.b0.c65
            (try go_wp2_with fail)
            (try go_ret)
            exact ⟨rfl, L.below⟩
          · cases br : decide (R = 0)
            · rw [br] at HT
              have hbr : ¬ R = 0 := of_decide_eq_false br
              have q3 : (R == 0) = false := by rw [beq_eq_false_iff_ne]; exact hbr
              have hT := HT.out
              simp only [Bool.true_and, Bool.false_and] at hT
              subst hT
              
              go_enter Tryz.func12, Tryz.ntmps12
              go_wp2_with fail
              have L := (L0.varI (w.heap.size) (by simp) (ng m) A (zl m) c e (ng n) B (zl n) d f)
              have c00 := L.b0.c60
              have c01 := L.b0.c61
              have c02 := L.b0.c62
              have c03 := L.b0.c63
              have c04 := L.b0.c64
              have c05 := L.b0.c65
              (try go_wp2_with fail)
              refine (H0.out _ _ (isI_n (m := m) (e := e) (n := n) (f := f) (L.getN (by simp)) (L.getN (by simp)))).mono ?_
              rintro e w1 ⟨rfl, be⟩
              clear c00 c01 c02 c03 c04 c05
              replace L := L.step be
              clear be
              have c00 := L.b0.c60
              have c01 := L.b0.c61
              have c02 := L.b0.c62
              have c03 := L.b0.c63
              have c04 := L.b0.c64
              have c05 := L.b0.c65
              (try go_wp2_with fail)
              refine (H1.out _ _ (isD_n (m := m) (e := e) (s := .slice A (zl m) c) (L.getN (by simp)))).mono ?_
              rintro e w2 ⟨rfl, be⟩
              clear c00 c01 c02 c03 c04 c05
              replace L := L.step be
              clear be
              have c00 := L.b0.c60
              have c01 := L.b0.c61
              have c02 := L.b0.c62
              have c03 := L.b0.c63
              have c04 := L.b0.c64
              have c05 := L.b0.c65
              (try go_wp2_with fail)
              refine (H2.out _ _ (isD_n (m := n) (e := f) (s := .slice B (zl n) d) (L.getN (by simp)))).mono ?_
              rintro e w3 ⟨rfl, be⟩
              clear c00 c01 c02 c03 c04 c05
              replace L := L.step be
              clear be
              have c00 := L.b0.c60
              have c01 := L.b0.c61
              have c02 := L.b0.c62
              have c03 := L.b0.c63
              have c04 := L.b0.c64
              have c05 := L.b0.c65
              (try go_wp2_with fail)
              refine (H3.out _ _ (isI_n (m := m) (e := e) (n := n) (f := f) (L.getN (by simp)) (L.getN (by simp)))).mono ?_
              rintro e w4 ⟨vv, rfl, id, be⟩
              clear c00 c01 c02 c03 c04 c05
              obtain ⟨A2, c2, rfl, _, in9⟩ := id.form
              replace L := (L.step be).n in9
              clear be id in9
              have hl0 := L.b0.lt
              replace L := L.varD w4.heap.size rfl (ng M) A2 (zl M) c2 E
              have c00 := L.b0.c30
              have c01 := L.b0.c31
              have c02 := L.b0.c32
              go_wp2_with fail
              clear c00 c01 c02
              obtain ⟨g1, hg1⟩ : ∃ g9, w4.heap.size = g9 := ⟨_, rfl⟩
              rw [hg1] at L hl0 ⊢
              clear hg1
              refine (H4.out hb0 hb1 _).mono ?_
              rintro e w5 ⟨vv, rfl, id, be⟩
              obtain ⟨A3, c3, rfl, _, in9⟩ := id.form
              replace L := (L.step be).n in9
              clear be id in9
              have hl1 := L.b0.lt
              replace L := L.varD w5.heap.size rfl (ng M2) A3 (zl M2) c3 E2
              have c00 := L.b0.c30
              have c01 := L.b0.c31
              have c02 := L.b0.c32
              have c10 := L.tl.b0.c30
              have c11 := L.tl.b0.c31
              have c12 := L.tl.b0.c32
              go_wp2_with fail
              (try go_ret)
              exact ⟨rfl, L.below⟩
            · rw [br] at HT
              have hbr : R = 0 := of_decide_eq_true br
              have H6 := Lib.hid (fun v u W g h => H5.out hb0 hb1 hbr v u W g h)
              subst hbr
              have hT := HT.out
              simp only [Bool.true_and, Bool.false_and] at hT
              subst hT
              subst hz
              
              go_enter Tryz.func12, Tryz.ntmps12
              go_wp2_with fail
              have L := (L0.varI (w.heap.size) (by simp) (ng m) A (zl m) c e (ng n) B (zl n) d f)
              have c00 := L.b0.c60
              have c01 := L.b0.c61
              have c02 := L.b0.c62
              have c03 := L.b0.c63
              have c04 := L.b0.c64
              have c05 := L.b0.c65
              (try go_wp2_with fail)
              refine (H0.out _ _ (isI_n (m := m) (e := e) (n := n) (f := f) (L.getN (by simp)) (L.getN (by simp)))).mono ?_
              rintro e w1 ⟨rfl, be⟩
              clear c00 c01 c02 c03 c04 c05
              replace L := L.step be
              clear be
              have c00 := L.b0.c60
              have c01 := L.b0.c61
              have c02 := L.b0.c62
              have c03 := L.b0.c63
              have c04 := L.b0.c64
              have c05 := L.b0.c65
              (try go_wp2_with fail)
              refine (H1.out _ _ (isD_n (m := m) (e := e) (s := .slice A (zl m) c) (L.getN (by simp)))).mono ?_
              rintro e w2 ⟨rfl, be⟩
              clear c00 c01 c02 c03 c04 c05
              replace L := L.step be
              clear be
              have c00 := L.b0.c60
              have c01 := L.b0.c61
              have c02 := L.b0.c62
              have c03 := L.b0.c63
              have c04 := L.b0.c64
              have c05 := L.b0.c65
              (try go_wp2_with fail)
              refine (H2.out _ _ (isD_n (m := n) (e := f) (s := .slice B (zl n) d) (L.getN (by simp)))).mono ?_
              rintro e w3 ⟨rfl, be⟩
              clear c00 c01 c02 c03 c04 c05
              replace L := L.step be
              clear be
              have c00 := L.b0.c60
              have c01 := L.b0.c61
              have c02 := L.b0.c62
              have c03 := L.b0.c63
              have c04 := L.b0.c64
              have c05 := L.b0.c65
              (try go_wp2_with fail)
              refine (H3.out _ _ (isI_n (m := m) (e := e) (n := n) (f := f) (L.getN (by simp)) (L.getN (by simp)))).mono ?_
              rintro e w4 ⟨vv, rfl, id, be⟩
              clear c00 c01 c02 c03 c04 c05
              obtain ⟨A2, c2, rfl, _, in9⟩ := id.form
              replace L := (L.step be).n in9
              clear be id in9
              have hl0 := L.b0.lt
              replace L := L.varD w4.heap.size rfl (ng M) A2 (zl M) c2 E
              have c00 := L.b0.c30
              have c01 := L.b0.c31
              have c02 := L.b0.c32
              go_wp2_with fail
              clear c00 c01 c02
              obtain ⟨g1, hg1⟩ : ∃ g9, w4.heap.size = g9 := ⟨_, rfl⟩
              rw [hg1] at L hl0 ⊢
              clear hg1
              refine (H4.out hb0 hb1 _).mono ?_
              rintro e w5 ⟨vv, rfl, id, be⟩
              obtain ⟨A3, c3, rfl, _, in9⟩ := id.form
              replace L := (L.step be).n in9
              clear be id in9
              have hl1 := L.b0.lt
              replace L := L.varD w5.heap.size rfl (ng M2) A3 (zl M2) c3 E2
              have c00 := L.b0.c30
              have c01 := L.b0.c31
              have c02 := L.b0.c32
              have c10 := L.tl.b0.c30
              have c11 := L.tl.b0.c31
              have c12 := L.tl.b0.c32
              go_wp2_with fail
              clear c00 c01 c02 c10 c11 c12
              obtain ⟨g2, hg2⟩ : ∃ g9, w5.heap.size = g9 := ⟨_, rfl⟩
              rw [hg2] at L hl1 ⊢
              clear hg2
              refine (H6.out _ _ _ (isD_n (m := M) (e := E) (s := .slice A2 (zl M) c2) (L.getN (by simp))) (isD_n (m := M2) (e := E2) (s := .slice A3 (zl M2) c3) (L.getN (by simp)))).mono ?_
              rintro e w6 ⟨rfl, be⟩
              replace L := L.step be
              clear be
              (try go_wp2_with fail)
              (try go_ret)
              exact ⟨rfl, L.below⟩

end Go.Proofs.YtfnklkdbieikeaaGreatDoor
