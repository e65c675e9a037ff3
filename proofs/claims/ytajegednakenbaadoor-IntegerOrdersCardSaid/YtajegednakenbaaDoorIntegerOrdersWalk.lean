/- The walk of IntegerOrders: whatever the input, the law returns true and turns nothing that was there. -/
import Derived.Test.YtajegednakenbaaDoorAwake5
import Derived.Deep.RegionHeld3
import Derived.Deep.DrawnRows
namespace Go.Proofs.YtajegednakenbaaDoor
open Go.RowKit
set_option linter.unusedVariables false
set_option linter.unusedSimpArgs false
attribute [local go_sem ↓] Go.wp_at_zero Go.wp_at_succ

set_option maxHeartbeats 4000000 in
theorem walk_IntegerOrders (b0 : Bool) (a0 : Option Addr) (len0 cap0 : Nat) (z0 : List Nat) (b1 : Bool) (a1 : Option Addr) (len1 cap1 : Nat) (z1 : List Nat) (w : World) (h0 : Sl w a0 len0 cap0 z0) (h1 : Sl w a1 len1 cap1 z1) (hT : Tab w) :
    Calls Tryd.prog 5 #[.agg #[.bool b0, .slice a0 len0 cap0], .agg #[.bool b1, .slice a1 len1 cap1]] w (fun e w' => e = .returned (.bool true) ∧ Below w.heap.size w w') := by
  go_enter Tryd.func5, Tryd.ntmps5
  go_wp2_with fail
  have L := (((Lz.mk0 w).box (w.heap.size) (by simp) b0 a0 len0 cap0).box (w.heap.size + 1) (by simp) b1 a1 len1 cap1)
  refine (awake5_any _ (hT.mono L.below)).mono ?_
  rintro e w1 ⟨rfl, be⟩
  replace L := L.step be
  clear be
  have c00 := L.b0.c0
  have c01 := L.b0.c1
  have c10 := L.tl.b0.c0
  have c11 := L.tl.b0.c1
  go_wp2_with fail
  refine (two_any b0 b1 z0 z1 60 a0 a1 len0 cap0 len1 cap1 _ (h0.mono L.below) (h1.mono L.below) (by omega)).mono ?_
  rintro e w2 ⟨vx, vy, ok, x, y, rfl, ix, iy, lx, ly, be⟩
  clear c00 c01 c10 c11
  replace L := ((L.step be).z iy).z ix
  obtain ⟨A, c, rfl, _⟩ := ix.form
  obtain ⟨B, d, rfl, _⟩ := iy.form
  clear be ix iy
  replace L := ((L.box w2.heap.size rfl (ng x) A (zl x) c).box (w2.heap.size + 1) (by simp) (ng y) B (zl y) d)
  cases ok
  · go_wp2_with fail
    go_ret
    exact ⟨rfl, L.below⟩
  · go_wp2_with fail
    obtain ⟨g, hg⟩ : ∃ g, w2.heap.size = g := ⟨_, rfl⟩
    rw [hg] at L ⊢
    clear hg
    replace L := L.drew
    have hk := cmpI_range x y
    have lnx := zl_neg x
    have lny := zl_neg y
    have lsb := zl_sub x y
    have H1 := fun vx vy W h1 h2 => zcmp_any x y vx vy W h1 h2 (by omega) (by omega)
    have H2 := Lib.hid (fun vx vy W h1 h2 => rzcmp_any x y vx vy W h1 h2 (by omega) (by omega))
    have H3 := fun vx vy W h1 h2 => zcmp_any y x vx vy W h1 h2 (by omega) (by omega)
    have H4 := fun vx vy W h1 h2 => zcmp_any x x vx vy W h1 h2 (by omega) (by omega)
    have H5 := Lib.hid (fun vx W h1 => zsign_any x vx W h1 (by omega))
    have H6 := Lib.hid (fun vx W h1 => rzsign_any x vx W h1 (by omega))
    have H7 := Lib.hid (fun vx vy W h1 h2 => zsub_any x y vx vy W h1 h2 (by omega) (by omega))
    have H8 := fun vx W h1 => zsign_any (x - y) vx W h1 (by omega)
    have H9 := Lib.hid (fun vx W h1 => zneg_any x vx W h1 (by omega))
    have H10 := Lib.hid (fun vx W h1 => zneg_any y vx W h1 (by omega))
    have H11 := fun vx vy W h1 h2 => zcmp_any (-x) (-y) vx vy W h1 h2 (by omega) (by omega)
    rw [cmpI_neg x y] at H3
    rw [cmpI_eq] at H4
    rw [cmp_sub] at H8
    rw [cmp_neg, cmpI_neg x y] at H11
    have HA := Lib.hid H1
    have HB := Lib.hid H3
    have HC := Lib.hid H4
    have HD := Lib.hid H8
    have HE := Lib.hid H11
    clear H1 H3 H4 H8 H11 lnx lny lsb hT h0 h1
    generalize cmpI x y = k at *
    generalize cmpI x 0 = s at *
    have hw : IntKind.i64.wrap (-k) = -k := by rw [IntKind.wrap_i64]; omega
    go_region_held3 (fun w' => w'.cell? ⟨g, 0, none⟩ = some (.bool (ng x)) ∧ w'.cell? ⟨g, 1, none⟩ = some (.slice A (zl x) c) ∧ w'.cell? ⟨g + 1, 0, none⟩ = some (.bool (ng y)) ∧ w'.cell? ⟨g + 1, 1, none⟩ = some (.slice B (zl y) d)) (first | (with_reducible exact ⟨L.tl.b0.c0, L.tl.b0.c1, L.b0.c0, L.b0.c1⟩) | exact ⟨L.tl.b0.c0, L.tl.b0.c1, L.b0.c0, L.b0.c1⟩) (first | (go_at_call 20; (with_reducible refine (HA.out _ _ _ ?_ ?_).mono ?_); (· (refine L.getZ ?_; (repeat (first | (with_reducible exact List.mem_cons_self) | apply List.mem_cons_of_mem)))); (· (refine L.getZ ?_; (repeat (first | (with_reducible exact List.mem_cons_self) | apply List.mem_cons_of_mem)))); rintro e wh ⟨rfl, be⟩; replace L := L.step be; clear be) | (go_at_call 21; (with_reducible refine (H2.out _ _ _ ?_ ?_).mono ?_); (· (refine L.getZ ?_; (repeat (first | (with_reducible exact List.mem_cons_self) | apply List.mem_cons_of_mem)))); (· (refine L.getZ ?_; (repeat (first | (with_reducible exact List.mem_cons_self) | apply List.mem_cons_of_mem)))); rintro e wh ⟨rfl, be⟩; replace L := L.step be; clear be) | (go_at_call 20; (with_reducible refine (HB.out _ _ _ ?_ ?_).mono ?_); (· (refine L.getZ ?_; (repeat (first | (with_reducible exact List.mem_cons_self) | apply List.mem_cons_of_mem)))); (· (refine L.getZ ?_; (repeat (first | (with_reducible exact List.mem_cons_self) | apply List.mem_cons_of_mem)))); rintro e wh ⟨rfl, be⟩; replace L := L.step be; clear be) | (go_at_call 20; (with_reducible refine (HC.out _ _ _ ?_ ?_).mono ?_); (· (refine L.getZ ?_; (repeat (first | (with_reducible exact List.mem_cons_self) | apply List.mem_cons_of_mem)))); (· (refine L.getZ ?_; (repeat (first | (with_reducible exact List.mem_cons_self) | apply List.mem_cons_of_mem)))); rintro e wh ⟨rfl, be⟩; replace L := L.step be; clear be) | (go_at_call 22; (with_reducible refine (H5.out _ _ ?_).mono ?_); (· (refine L.getZ ?_; (repeat (first | (with_reducible exact List.mem_cons_self) | apply List.mem_cons_of_mem)))); rintro e wh ⟨rfl, be⟩; replace L := L.step be; clear be) | (go_at_call 23; (with_reducible refine (H6.out _ _ ?_).mono ?_); (· (refine L.getZ ?_; (repeat (first | (with_reducible exact List.mem_cons_self) | apply List.mem_cons_of_mem)))); rintro e wh ⟨rfl, be⟩; replace L := L.step be; clear be) | (go_at_call 24; (with_reducible refine (H7.out _ _ _ ?_ ?_).mono ?_); (· (refine L.getZ ?_; (repeat (first | (with_reducible exact List.mem_cons_self) | apply List.mem_cons_of_mem)))); (· (refine L.getZ ?_; (repeat (first | (with_reducible exact List.mem_cons_self) | apply List.mem_cons_of_mem)))); rintro e wh ⟨vh, rfl, iz, be⟩; replace L := (L.step be).z iz; clear iz be) | (go_at_call 22; (with_reducible refine (HD.out _ _ ?_).mono ?_); (· (refine L.getZ ?_; (repeat (first | (with_reducible exact List.mem_cons_self) | apply List.mem_cons_of_mem)))); rintro e wh ⟨rfl, be⟩; replace L := L.step be; clear be) | (go_at_call 25; (with_reducible refine (H9.out _ _ ?_).mono ?_); (· (refine L.getZ ?_; (repeat (first | (with_reducible exact List.mem_cons_self) | apply List.mem_cons_of_mem)))); rintro e wh ⟨vh, rfl, iz, be⟩; replace L := (L.step be).z iz; clear iz be) | (go_at_call 25; (with_reducible refine (H10.out _ _ ?_).mono ?_); (· (refine L.getZ ?_; (repeat (first | (with_reducible exact List.mem_cons_self) | apply List.mem_cons_of_mem)))); rintro e wh ⟨vh, rfl, iz, be⟩; replace L := (L.step be).z iz; clear iz be) | (go_at_call 20; (with_reducible refine (HE.out _ _ _ ?_ ?_).mono ?_); (· (refine L.getZ ?_; (repeat (first | (with_reducible exact List.mem_cons_self) | apply List.mem_cons_of_mem)))); (· (refine L.getZ ?_; (repeat (first | (with_reducible exact List.mem_cons_self) | apply List.mem_cons_of_mem)))); rintro e wh ⟨rfl, be⟩; replace L := L.step be; clear be))
    go_wp2_with fail
    go_ret
    exact ⟨rfl, L.below⟩

end Go.Proofs.YtajegednakenbaaDoor
