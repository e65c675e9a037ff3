/- The walk of DyadicOrders: whatever the input, the law returns true and turns nothing that was there. -/
import Derived.Test.YtpgiolbnmlbjbaaGreatDoorAwake8
import Derived.Test.YtpgiolbnmlbjbaaGreatDoorMillTwoD
import Derived.Test.YtpgiolbnmlbjbaaGreatDoorDyPC
import Derived.Test.YtpgiolbnmlbjbaaGreatDoorDyLaw
import Derived.Test.YtpgiolbnmlbjbaaGreatDoorRefRatB
import Derived.Test.YtpgiolbnmlbjbaaGreatDoorRefDyA
import Derived.Test.YtpgiolbnmlbjbaaGreatDoorRefDyD
import Derived.Test.YtpgiolbnmlbjbaaGreatDoorRefDyE
import Derived.Deep.RegionHeld3
import Derived.Deep.DrawnRows
namespace Go.Proofs.YtpgiolbnmlbjbaaGreatDoor
open Go.RowKit
set_option linter.unusedVariables false
set_option linter.unusedSimpArgs false
set_option maxRecDepth 100000
attribute [local go_sem ↓] Go.wp_at_zero Go.wp_at_succ

set_option maxHeartbeats 4000000 in
theorem walk_DyadicOrders (b0 : Bool) (a0 : Option Addr) (len0 cap0 : Nat) (z0 : List Nat) (f0 : Int) (b1 : Bool) (a1 : Option Addr) (len1 cap1 : Nat) (z1 : List Nat) (f1 : Int) (w : World) (h0 : Sl w a0 len0 cap0 z0) (u0 : -9223372036854775808 ≤ f0) (t0 : f0 ≤ 9223372036854775807) (h1 : Sl w a1 len1 cap1 z1) (u1 : -9223372036854775808 ≤ f1) (t1 : f1 ≤ 9223372036854775807) (hT : Tab w) (hP : Pow10 w) :
    Calls Tryz.prog 6 #[.agg #[.bool b0, .slice a0 len0 cap0, .int .i64 f0], .agg #[.bool b1, .slice a1 len1 cap1, .int .i64 f1]] w (fun e w' => e = .returned (.bool true) ∧ Below w.heap.size w w') := by
  go_enter Tryz.func6, Tryz.ntmps6
  go_wp2_with fail
  have L := (((Lq.mk0 w).varD (w.heap.size) (by simp) b0 a0 len0 cap0 f0).varD (w.heap.size + 1) (by simp) b1 a1 len1 cap1 f1)
  (try go_wp2_with fail)
  refine (awake8_any _ (hT.mono L.below) (hP.mono L.below)).mono ?_
  rintro e w1 ⟨rfl, be⟩
  replace L := L.step be
  clear be
  have c00 := L.b0.c30
  have c01 := L.b0.c31
  have c02 := L.b0.c32
  have c10 := L.tl.b0.c30
  have c11 := L.tl.b0.c31
  have c12 := L.tl.b0.c32
  go_wp2_with fail
  refine (two8_any b0 b1 z0 z1 a0 a1 len0 cap0 len1 cap1 f0 f1 _ (h0.mono L.below) (h1.mono L.below) u0 t0 u1 t1).mono ?_
  rintro e9 w2 ⟨vx, vy, ok, m, e, n, k, rfl, ix, iy, lm, ln, he1, he2, hk1, hk2, hv, be⟩
  clear c00 c01 c02 c10 c11 c12
  obtain ⟨A, c, rfl, izx, inx⟩ := ix.form
  obtain ⟨B, d, rfl, izy, iny⟩ := iy.form
  replace L := ((((L.step be).n iny).n inx).z izy).z izx
  clear be ix iy izx inx izy iny
  have hlt0 := L.b0.lt
  have hlt1 := L.tl.b0.lt
  replace L := (L.varD w2.heap.size rfl (ng m) A (zl m) c e).varD (w2.heap.size + 1) (by simp) (ng n) B (zl n) d k
  cases ok
  · go_wp2_with fail
    go_ret
    exact ⟨rfl, L.below⟩
  · have HV := Lib.hid (hv rfl)
    clear hv
    go_wp2_with fail
    obtain ⟨g, hg⟩ : ∃ g, w2.heap.size = g := ⟨_, rfl⟩
    rw [hg] at L ⊢
    clear hg
    replace L := L.drew
    have hK := dy_cmp m e n k (min e k) (by omega) (by omega)
    have hS := cmp_same HV.out.1 HV.out.2
    have hR := cmpI_range (m * 2 ^ (e - min e k).toNat) (n * 2 ^ (k - min e k).toNat)
    have l1 := zl_two m e.toNat
    have l2 := zl_two n k.toNat
    have l3 := len_two (-e).toNat
    have l4 := len_two (-k).toNat
    have C1 := fun v u W h1 h2 => dcmp_any m e n k v u W h1 h2 (by omega) (by omega) (by omega) (by omega)
    have c2 := fun v u W h1 h2 => dcmp_any n k m e v u W h1 h2 (by omega) (by omega) (by omega) (by omega)
    have hneg : cmpI (n * 2 ^ (k - min k e).toNat) (m * 2 ^ (e - min k e).toNat) = -cmpI (m * 2 ^ (e - min e k).toNat) (n * 2 ^ (k - min e k).toNat) := by rw [Int.min_comm k e]; exact cmpI_neg _ _
    rw [hneg] at c2
    have r1 := fun v u W h1 h2 => rcmp7_any (m * 2 ^ e.toNat) (2 ^ (-e).toNat) (n * 2 ^ k.toNat) (2 ^ (-k).toNat) v u W h1 h2 (by omega) (by omega) (by omega) (by omega)
    rw [hK] at r1
    have x1 := fun v W h => rrat8_any m e v W h (by omega) (by omega)
    have x2 := fun v W h => rrat8_any n k v W h (by omega) (by omega)
    have s3 := fun v u W h1 h2 => same8_any m e n k v u W h1 h2
    rw [← hS] at s3
    have H1 := Lib.hid C1
    have H2 := Lib.hid c2
    have H3 := Lib.hid (fun v W h => dsign_any m e v W h (by omega))
    have H4 := Lib.hid (fun v W h => rsign8_any m e v W h (by omega))
    have H5 := Lib.hid (fun v W h => dtop_any m e v W h (by omega) (by omega) (dv_zero HV.out.1))
    have H6 := Lib.hid (fun v W h => rtop_any m e v W h (by omega) (by omega))
    clear hK hS hneg l1 l2 l3 l4 C1 c2 HV lm ln he1 he2 hk1 hk2 hT hP h0 h1 u0 t0 u1 t1 hlt0 hlt1
    generalize cmpI (m * 2 ^ (e - min e k).toNat) (n * 2 ^ (k - min e k).toNat) = K at *
    rw [show decide (K = 0) = (K == 0) from rfl] at s3
    generalize m * 2 ^ e.toNat = p1 at *
    generalize n * 2 ^ k.toNat = p2 at *
    generalize 2 ^ (-e).toNat = q1 at *
    generalize 2 ^ (-k).toNat = q2 at *
    have HR := Lib.hid r1
    have HX := Lib.hid x1
    have HY := Lib.hid x2
    have HS := Lib.hid s3
    generalize cmpI m 0 = s at *
    generalize topZ m e = tp at *
    have hw : IntKind.i64.wrap (-K) = -K := by rw [IntKind.wrap_i64]; omega
    clear hR r1 x1 x2 s3
    have c00 := L.b0.c30
    have c01 := L.b0.c31
    have c02 := L.b0.c32
    have c10 := L.tl.b0.c30
    have c11 := L.tl.b0.c31
    have c12 := L.tl.b0.c32
    have c20 := L.tl.tl.b0.c30
    have c21 := L.tl.tl.b0.c31
    have c22 := L.tl.tl.b0.c32
    have c30 := L.tl.tl.tl.b0.c30
    have c31 := L.tl.tl.tl.b0.c31
    have c32 := L.tl.tl.tl.b0.c32
    go_region_held3 (fun w' => w'.cell? ⟨g, 0, none⟩ = some (.bool (ng m)) ∧ w'.cell? ⟨g, 1, none⟩ = some (.slice A (zl m) c) ∧ w'.cell? ⟨g, 2, none⟩ = some (.int .i64 e) ∧ w'.cell? ⟨g + 1, 0, none⟩ = some (.bool (ng n)) ∧ w'.cell? ⟨g + 1, 1, none⟩ = some (.slice B (zl n) d) ∧ w'.cell? ⟨g + 1, 2, none⟩ = some (.int .i64 k)) (first | (with_reducible exact ⟨L.tl.b0.c30, L.tl.b0.c31, L.tl.b0.c32, L.b0.c30, L.b0.c31, L.b0.c32⟩) | exact ⟨L.tl.b0.c30, L.tl.b0.c31, L.tl.b0.c32, L.b0.c30, L.b0.c31, L.b0.c32⟩) (first | (go_at_call 35; (with_reducible refine (H1.out _ _ _ ?_ ?_ ).mono ?_); (· (refine isD_n (L.getN ?_); (repeat (first | (with_reducible exact List.mem_cons_self) | apply List.mem_cons_of_mem)))); (· (refine isD_n (L.getN ?_); (repeat (first | (with_reducible exact List.mem_cons_self) | apply List.mem_cons_of_mem)))); rintro e wh ⟨rfl, be⟩; replace L := L.step be; clear be) | (go_at_call 35; (with_reducible refine (H2.out _ _ _ ?_ ?_ ).mono ?_); (· (refine isD_n (L.getN ?_); (repeat (first | (with_reducible exact List.mem_cons_self) | apply List.mem_cons_of_mem)))); (· (refine isD_n (L.getN ?_); (repeat (first | (with_reducible exact List.mem_cons_self) | apply List.mem_cons_of_mem)))); rintro e wh ⟨rfl, be⟩; replace L := L.step be; clear be) | (go_at_call 25; (with_reducible refine (HX.out _ _ ?_ ).mono ?_); (· (refine isD_n (L.getN ?_); (repeat (first | (with_reducible exact List.mem_cons_self) | apply List.mem_cons_of_mem)))); rintro e wh ⟨vh, rfl, iq, be⟩; replace L := (L.step be).q iq; clear be iq) | (go_at_call 25; (with_reducible refine (HY.out _ _ ?_ ).mono ?_); (· (refine isD_n (L.getN ?_); (repeat (first | (with_reducible exact List.mem_cons_self) | apply List.mem_cons_of_mem)))); rintro e wh ⟨vh, rfl, iq, be⟩; replace L := (L.step be).q iq; clear be iq) | (go_at_call 37; (with_reducible refine (HR.out _ _ _ ?_ ?_ ).mono ?_); (· (refine L.getQ ?_; (repeat (first | (with_reducible exact List.mem_cons_self) | apply List.mem_cons_of_mem)))); (· (refine L.getQ ?_; (repeat (first | (with_reducible exact List.mem_cons_self) | apply List.mem_cons_of_mem)))); rintro e wh ⟨rfl, be⟩; replace L := L.step be; clear be) | (go_at_call 38; (with_reducible refine (H3.out _ _ ?_ ).mono ?_); (· (refine isD_n (L.getN ?_); (repeat (first | (with_reducible exact List.mem_cons_self) | apply List.mem_cons_of_mem)))); rintro e wh ⟨rfl, be⟩; replace L := L.step be; clear be) | (go_at_call 39; (with_reducible refine (H4.out _ _ ?_ ).mono ?_); (· (refine isD_n (L.getN ?_); (repeat (first | (with_reducible exact List.mem_cons_self) | apply List.mem_cons_of_mem)))); rintro e wh ⟨rfl, be⟩; replace L := L.step be; clear be) | (go_at_call 40; (with_reducible refine (H5.out _ _ ?_ ).mono ?_); (· (refine isD_n (L.getN ?_); (repeat (first | (with_reducible exact List.mem_cons_self) | apply List.mem_cons_of_mem)))); rintro e wh ⟨rfl, be⟩; replace L := L.step be; clear be) | (go_at_call 41; (with_reducible refine (H6.out _ _ ?_ ).mono ?_); (· (refine isD_n (L.getN ?_); (repeat (first | (with_reducible exact List.mem_cons_self) | apply List.mem_cons_of_mem)))); rintro e wh ⟨rfl, be⟩; replace L := L.step be; clear be) | (go_at_call 16; (with_reducible refine (HS.out _ _ _ ?_ ?_ ).mono ?_); (· (refine isD_n (L.getN ?_); (repeat (first | (with_reducible exact List.mem_cons_self) | apply List.mem_cons_of_mem)))); (· (refine isD_n (L.getN ?_); (repeat (first | (with_reducible exact List.mem_cons_self) | apply List.mem_cons_of_mem)))); rintro e wh ⟨rfl, be⟩; replace L := L.step be; clear be))
    clear c00 c01 c02 c10 c11 c12 c20 c21 c22 c30 c31 c32
    go_wp2_with fail
    go_ret
    exact ⟨rfl, L.below⟩

end Go.Proofs.YtpgiolbnmlbjbaaGreatDoor
