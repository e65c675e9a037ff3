/- The walk of IntegerDivides: whatever the input, the law returns true and turns nothing that was there. -/
import Derived.Test.YtajegednakenbaaDoorAwake5
import Derived.Deep.RegionHeld3
import Derived.Deep.DrawnRows
namespace Go.Proofs.YtajegednakenbaaDoor
open Go.RowKit
set_option linter.unusedVariables false
set_option linter.unusedSimpArgs false
attribute [local go_sem ↓] Go.wp_at_zero Go.wp_at_succ

set_option maxHeartbeats 4000000 in
theorem walk_IntegerDivides (b0 : Bool) (a0 : Option Addr) (len0 cap0 : Nat) (z0 : List Nat) (b1 : Bool) (a1 : Option Addr) (len1 cap1 : Nat) (z1 : List Nat) (w : World) (h0 : Sl w a0 len0 cap0 z0) (h1 : Sl w a1 len1 cap1 z1) (hT : Tab w) :
    Calls Tryd.prog 7 #[.agg #[.bool b0, .slice a0 len0 cap0], .agg #[.bool b1, .slice a1 len1 cap1]] w (fun e w' => e = .returned (.bool true) ∧ Below w.heap.size w w') := by
  go_enter Tryd.func7, Tryd.ntmps7
  go_wp2_with fail
  have L := (((Lz.mk0 w).box (w.heap.size) (by simp) b0 a0 len0 cap0).box (w.heap.size + 1) (by simp) b1 a1 len1 cap1)
  refine (awake5_any _ (hT.mono L.below)).mono ?_
  rintro e w1 ⟨rfl, be⟩
  replace L := L.step be
  clear be
  have c00 := L.b0.c0
  have c01 := L.b0.c1
  have c10 := L.tl.b0.c0
  have c11 := L.tl.b0.c1
  go_wp2_with fail
  refine (two_any b0 b1 z0 z1 40 a0 a1 len0 cap0 len1 cap1 _ (h0.mono L.below) (h1.mono L.below) (by omega)).mono ?_
  rintro e w2 ⟨vx, vy, ok, x, y, rfl, ix, iy, lx, ly, be⟩
  clear c00 c01 c10 c11
  replace L := ((L.step be).z iy).z ix
  obtain ⟨A, c, rfl, _⟩ := ix.form
  obtain ⟨B, d, rfl, _⟩ := iy.form
  clear be ix iy
  replace L := ((L.box w2.heap.size rfl (ng x) A (zl x) c).box (w2.heap.size + 1) (by simp) (ng y) B (zl y) d)
  clear h0 h1 hT
  cases ok
  · go_wp2_with fail
    go_ret
    exact ⟨rfl, L.below⟩
  · go_wp2_with fail
    obtain ⟨g, hg⟩ : ∃ g, w2.heap.size = g := ⟨_, rfl⟩
    rw [hg] at L ⊢
    clear hg
    by_cases hy0 : y = 0
    · subst hy0
      rw [zl_zero, show ng 0 = false from rfl] at *
      refine (zdivmod_zero x _ _ _ (L.getZ (by simp)) (L.getZ (by simp)) (by omega)).mono ?_
      rintro e w3 ⟨rfl, be⟩
      replace L := L.step be
      clear be
      replace L := (L.box w3.heap.size rfl false none 0 0).box (w3.heap.size + 1) (by simp) false none 0 0
      have c00 := L.b0.c0
      have c01 := L.b0.c1
      have c10 := L.tl.b0.c0
      have c11 := L.tl.b0.c1
      have c20 := L.tl.tl.b0.c0
      have c21 := L.tl.tl.b0.c1
      have c30 := L.tl.tl.tl.b0.c0
      have c31 := L.tl.tl.tl.b0.c1
      have c40 := L.tl.tl.tl.tl.b0.c0
      have c41 := L.tl.tl.tl.tl.b0.c1
      have c50 := L.tl.tl.tl.tl.tl.b0.c0
      have c51 := L.tl.tl.tl.tl.tl.b0.c1
      go_wp2_with fail
      refine (zsame_yes 0 0 _ _ _ (isZ_zero _) (isZ_zero _) rfl).mono ?_
      rintro e w4 ⟨rfl, be⟩
      clear c00 c01 c10 c11 c20 c21 c30 c31 c40 c41 c50 c51
      replace L := L.step be
      clear be
      have c00 := L.b0.c0
      have c01 := L.b0.c1
      have c10 := L.tl.b0.c0
      have c11 := L.tl.b0.c1
      have c20 := L.tl.tl.b0.c0
      have c21 := L.tl.tl.b0.c1
      have c30 := L.tl.tl.tl.b0.c0
      have c31 := L.tl.tl.tl.b0.c1
      have c40 := L.tl.tl.tl.tl.b0.c0
      have c41 := L.tl.tl.tl.tl.b0.c1
      have c50 := L.tl.tl.tl.tl.tl.b0.c0
      have c51 := L.tl.tl.tl.tl.tl.b0.c1
      go_wp2_with fail
      refine (zsame_yes 0 0 _ _ _ (isZ_zero _) (isZ_zero _) rfl).mono ?_
      rintro e w5 ⟨rfl, be⟩
      clear c00 c01 c10 c11 c20 c21 c30 c31 c40 c41 c50 c51
      replace L := L.step be
      clear be
      have c00 := L.b0.c0
      have c01 := L.b0.c1
      have c10 := L.tl.b0.c0
      have c11 := L.tl.b0.c1
      have c20 := L.tl.tl.b0.c0
      have c21 := L.tl.tl.b0.c1
      have c30 := L.tl.tl.tl.b0.c0
      have c31 := L.tl.tl.tl.b0.c1
      have c40 := L.tl.tl.tl.tl.b0.c0
      have c41 := L.tl.tl.tl.tl.b0.c1
      have c50 := L.tl.tl.tl.tl.tl.b0.c0
      have c51 := L.tl.tl.tl.tl.tl.b0.c1
      go_wp2_with fail
      go_ret
      exact ⟨rfl, L.below⟩
    · have hyl := zl_pos hy0
      obtain ⟨hqr, hlt, hsg⟩ := floor_law x hy0
      have HD := Lib.hid (fun vx vy W h1 h2 => zdivmod_any x y vx vy W h1 h2 (by omega) (by omega) hy0)
      obtain ⟨q, hq⟩ : ∃ q, x.fdiv y = q := ⟨_, rfl⟩
      obtain ⟨r, hr⟩ : ∃ r, x.fmod y = r := ⟨_, rfl⟩
      rw [hq, hr] at HD hqr
      rw [hr] at hlt hsg
      clear hq hr
      have hlr : zl r ≤ zl y := len_mono (Nat.le_of_lt hlt)
      have hlm := zl_mul q y
      have hlq : zl q ≤ 41 := by
        have h1 := zl_sub x r
        rw [show x - r = q * y from by omega] at h1
        have h2 : zl q ≤ zl (q * y) := by
          unfold zl
          rw [Int.natAbs_mul]
          exact len_mono (Nat.le_mul_of_pos_right _ (by omega))
        omega
      have HCM := fun va vb W h1 h2 => rcmpB_any r.natAbs y.natAbs va vb W h1 h2
      rw [cmpI_lt (show (r.natAbs : Int) < (y.natAbs : Int) from by omega)] at HCM
      have HC := Lib.hid HCM
      have HQ := Lib.hid hqr
      clear HCM hqr hlt
      refine (HD.out _ _ _ (L.getZ (by simp)) (L.getZ (by simp))).mono ?_
      rintro e w3 ⟨vq, vr, rfl, iq, ir, be⟩
      replace L := ((L.step be).z iq).z ir
      obtain ⟨A2, c2, rfl, _⟩ := iq.form
      obtain ⟨B2, d2, rfl, inr⟩ := ir.form
      replace L := L.n inr
      clear be iq ir HD inr
      replace L := (L.box w3.heap.size rfl (ng q) A2 (zl q) c2).box (w3.heap.size + 1) (by simp) (ng r) B2 (zl r) d2
      have c00 := L.b0.c0
      have c01 := L.b0.c1
      have c10 := L.tl.b0.c0
      have c11 := L.tl.b0.c1
      have c20 := L.tl.tl.b0.c0
      have c21 := L.tl.tl.b0.c1
      have c30 := L.tl.tl.tl.b0.c0
      have c31 := L.tl.tl.tl.b0.c1
      have c40 := L.tl.tl.tl.tl.b0.c0
      have c41 := L.tl.tl.tl.tl.b0.c1
      have c50 := L.tl.tl.tl.tl.tl.b0.c0
      have c51 := L.tl.tl.tl.tl.tl.b0.c1
      go_wp2_with fail
      obtain ⟨h, hh⟩ : ∃ g, w3.heap.size = g := ⟨_, rfl⟩
      rw [hh] at L ⊢
      clear hh
      clear c00 c01 c10 c11 c20 c21 c30 c31 c40 c41 c50 c51
      have c00 := L.b0.c0
      have c01 := L.b0.c1
      have c10 := L.tl.b0.c0
      have c11 := L.tl.b0.c1
      have c20 := L.tl.tl.b0.c0
      have c21 := L.tl.tl.b0.c1
      have c30 := L.tl.tl.tl.b0.c0
      have c31 := L.tl.tl.tl.b0.c1
      have c40 := L.tl.tl.tl.tl.b0.c0
      have c41 := L.tl.tl.tl.tl.b0.c1
      have c50 := L.tl.tl.tl.tl.tl.b0.c0
      have c51 := L.tl.tl.tl.tl.tl.b0.c1
      refine (zvalidZ_any q _ _ (L.getZ (by simp))).mono ?_
      rintro e w4 ⟨rfl, be⟩
      clear c00 c01 c10 c11 c20 c21 c30 c31 c40 c41 c50 c51
      replace L := L.step be
      clear be
      have c00 := L.b0.c0
      have c01 := L.b0.c1
      have c10 := L.tl.b0.c0
      have c11 := L.tl.b0.c1
      have c20 := L.tl.tl.b0.c0
      have c21 := L.tl.tl.b0.c1
      have c30 := L.tl.tl.tl.b0.c0
      have c31 := L.tl.tl.tl.b0.c1
      have c40 := L.tl.tl.tl.tl.b0.c0
      have c41 := L.tl.tl.tl.tl.b0.c1
      have c50 := L.tl.tl.tl.tl.tl.b0.c0
      have c51 := L.tl.tl.tl.tl.tl.b0.c1
      go_wp2_with fail
      refine (zvalidZ_any r _ _ (L.getZ (by simp))).mono ?_
      rintro e w5 ⟨rfl, be⟩
      clear c00 c01 c10 c11 c20 c21 c30 c31 c40 c41 c50 c51
      replace L := L.step be
      clear be
      have c00 := L.b0.c0
      have c01 := L.b0.c1
      have c10 := L.tl.b0.c0
      have c11 := L.tl.b0.c1
      have c20 := L.tl.tl.b0.c0
      have c21 := L.tl.tl.b0.c1
      have c30 := L.tl.tl.tl.b0.c0
      have c31 := L.tl.tl.tl.b0.c1
      have c40 := L.tl.tl.tl.tl.b0.c0
      have c41 := L.tl.tl.tl.tl.b0.c1
      have c50 := L.tl.tl.tl.tl.tl.b0.c0
      have c51 := L.tl.tl.tl.tl.tl.b0.c1
      obtain ⟨_, e0, iny⟩ := L.getZ (v := .agg #[.bool (ng y), .slice B (zl y) d]) (x := y) (by simp)
      obtain rfl : Value.slice B (zl y) d = _ := by simpa using e0
      clear e0
      go_wp2_with fail
      refine (HC.out _ _ _ (L.getN (by simp)) iny).mono ?_
      rintro e w6 ⟨rfl, be⟩
      clear c00 c01 c10 c11 c20 c21 c30 c31 c40 c41 c50 c51
      replace L := L.step be
      clear be HC iny
      have c00 := L.b0.c0
      have c01 := L.b0.c1
      have c10 := L.tl.b0.c0
      have c11 := L.tl.b0.c1
      have c20 := L.tl.tl.b0.c0
      have c21 := L.tl.tl.b0.c1
      have c30 := L.tl.tl.tl.b0.c0
      have c31 := L.tl.tl.tl.b0.c1
      have c40 := L.tl.tl.tl.tl.b0.c0
      have c41 := L.tl.tl.tl.tl.b0.c1
      have c50 := L.tl.tl.tl.tl.tl.b0.c0
      have c51 := L.tl.tl.tl.tl.tl.b0.c1
      rcases hsg with rfl | ⟨hr0, hsg⟩
      · rw [zl_zero] at *
        have hz0 : zl 0 ≤ 1 := by rw [zl_zero]; omega
        replace L := L.drew
        go_wp2_with fail
        go_region_held3 (fun w' => w'.cell? ⟨h, 0, none⟩ = some (.bool (ng q)) ∧ w'.cell? ⟨h, 1, none⟩ = some (.slice A2 (zl q) c2) ∧ w'.cell? ⟨h + 1, 0, none⟩ = some (.bool (ng 0)) ∧ w'.cell? ⟨h + 1, 1, none⟩ = some (.slice B2 0 d2) ∧ w'.cell? ⟨g, 0, none⟩ = some (.bool (ng x)) ∧ w'.cell? ⟨g, 1, none⟩ = some (.slice A (zl x) c) ∧ w'.cell? ⟨g + 1, 0, none⟩ = some (.bool (ng y)) ∧ w'.cell? ⟨g + 1, 1, none⟩ = some (.slice B (zl y) d)) (first | (with_reducible exact ⟨L.tl.b0.c0, L.tl.b0.c1, L.b0.c0, L.b0.c1, L.tl.tl.tl.b0.c0, L.tl.tl.tl.b0.c1, L.tl.tl.b0.c0, L.tl.tl.b0.c1⟩) | exact ⟨L.tl.b0.c0, L.tl.b0.c1, L.b0.c0, L.b0.c1, L.tl.tl.tl.b0.c0, L.tl.tl.tl.b0.c1, L.tl.tl.b0.c0, L.tl.tl.b0.c1⟩) (first | (go_at_call 31; (with_reducible refine (rzmul_any q y _ _ _ ?_ ?_ ?_ ?_).mono ?_); (· (refine L.getZ ?_; (repeat (first | (with_reducible exact List.mem_cons_self) | apply List.mem_cons_of_mem)))); (· (refine L.getZ ?_; (repeat (first | (with_reducible exact List.mem_cons_self) | apply List.mem_cons_of_mem)))); (· omega); (· omega); rintro e wh ⟨vh, rfl, iz, be⟩; replace L := (L.step be).z iz; clear iz be) | (go_at_call 28; (with_reducible refine (rzadd_any (q * y) 0 _ _ _ ?_ ?_ ?_ ?_).mono ?_); (· (refine L.getZ ?_; (repeat (first | (with_reducible exact List.mem_cons_self) | apply List.mem_cons_of_mem)))); (· (refine L.getZ ?_; (repeat (first | (with_reducible exact List.mem_cons_self) | apply List.mem_cons_of_mem)))); (· omega); (· omega); rintro e wh ⟨vh, rfl, iz, be⟩; replace L := (L.step be).z iz; clear iz be) | (go_at_call 16; (with_reducible refine (zsame_yes (q * y + 0) x _ _ _ ?_ ?_ HQ.out).mono ?_); (· (refine L.getZ ?_; (repeat (first | (with_reducible exact List.mem_cons_self) | apply List.mem_cons_of_mem)))); (· (refine L.getZ ?_; (repeat (first | (with_reducible exact List.mem_cons_self) | apply List.mem_cons_of_mem)))); rintro e wh ⟨rfl, be⟩; replace L := L.step be; clear be))
        go_wp2_with fail
        go_ret
        exact ⟨rfl, L.below⟩
      · have hzr := zl_pos hr0
        have hbb : (!ng r == ng y) = false := by rw [hsg]; simp
        clear hsg
        replace L := L.drew
        go_wp2_with fail
        go_region_held3 (fun w' => w'.cell? ⟨h, 0, none⟩ = some (.bool (ng q)) ∧ w'.cell? ⟨h, 1, none⟩ = some (.slice A2 (zl q) c2) ∧ w'.cell? ⟨h + 1, 0, none⟩ = some (.bool (ng r)) ∧ w'.cell? ⟨h + 1, 1, none⟩ = some (.slice B2 (zl r) d2) ∧ w'.cell? ⟨g, 0, none⟩ = some (.bool (ng x)) ∧ w'.cell? ⟨g, 1, none⟩ = some (.slice A (zl x) c) ∧ w'.cell? ⟨g + 1, 0, none⟩ = some (.bool (ng y)) ∧ w'.cell? ⟨g + 1, 1, none⟩ = some (.slice B (zl y) d)) (first | (with_reducible exact ⟨L.tl.b0.c0, L.tl.b0.c1, L.b0.c0, L.b0.c1, L.tl.tl.tl.b0.c0, L.tl.tl.tl.b0.c1, L.tl.tl.b0.c0, L.tl.tl.b0.c1⟩) | exact ⟨L.tl.b0.c0, L.tl.b0.c1, L.b0.c0, L.b0.c1, L.tl.tl.tl.b0.c0, L.tl.tl.tl.b0.c1, L.tl.tl.b0.c0, L.tl.tl.b0.c1⟩) (first | (go_at_call 31; (with_reducible refine (rzmul_any q y _ _ _ ?_ ?_ ?_ ?_).mono ?_); (· (refine L.getZ ?_; (repeat (first | (with_reducible exact List.mem_cons_self) | apply List.mem_cons_of_mem)))); (· (refine L.getZ ?_; (repeat (first | (with_reducible exact List.mem_cons_self) | apply List.mem_cons_of_mem)))); (· omega); (· omega); rintro e wh ⟨vh, rfl, iz, be⟩; replace L := (L.step be).z iz; clear iz be) | (go_at_call 28; (with_reducible refine (rzadd_any (q * y) r _ _ _ ?_ ?_ ?_ ?_).mono ?_); (· (refine L.getZ ?_; (repeat (first | (with_reducible exact List.mem_cons_self) | apply List.mem_cons_of_mem)))); (· (refine L.getZ ?_; (repeat (first | (with_reducible exact List.mem_cons_self) | apply List.mem_cons_of_mem)))); (· omega); (· omega); rintro e wh ⟨vh, rfl, iz, be⟩; replace L := (L.step be).z iz; clear iz be) | (go_at_call 16; (with_reducible refine (zsame_yes (q * y + r) x _ _ _ ?_ ?_ HQ.out).mono ?_); (· (refine L.getZ ?_; (repeat (first | (with_reducible exact List.mem_cons_self) | apply List.mem_cons_of_mem)))); (· (refine L.getZ ?_; (repeat (first | (with_reducible exact List.mem_cons_self) | apply List.mem_cons_of_mem)))); rintro e wh ⟨rfl, be⟩; replace L := L.step be; clear be))
        go_wp2_with fail
        go_ret
        exact ⟨rfl, L.below⟩

end Go.Proofs.YtajegednakenbaaDoor
