/- The walk of IntegerValues: whatever the input, the law returns true and turns nothing that was there. -/
import Derived.Test.YtajegednakenbaaDoorAwake5
import Derived.Deep.RegionHeld3
import Derived.Deep.DrawnRows
namespace Go.Proofs.YtajegednakenbaaDoor
open Go.RowKit
set_option linter.unusedVariables false
set_option linter.unusedSimpArgs false
attribute [local go_sem ↓] Go.wp_at_zero Go.wp_at_succ

set_option maxHeartbeats 4000000 in
theorem walk_IntegerValues (b0 : Bool) (a0 : Option Addr) (len0 cap0 : Nat) (z0 : List Nat) (a1 : Int) (w : World) (h0 : Sl w a0 len0 cap0 z0) (hb : -9223372036854775808 ≤ a1 ∧ a1 ≤ 9223372036854775807) (hT : Tab w) :
    Calls Tryd.prog 3 #[.agg #[.bool b0, .slice a0 len0 cap0], .int .i64 a1] w (fun e w' => e = .returned (.bool true) ∧ Below w.heap.size w w') := by
  have h63 := h0.le63
  obtain ⟨hb1, hb2⟩ := hb
  rcases Nat.lt_or_ge 100 len0 with hbig | hsmall
  · skip
    go_enter Tryd.func3, Tryd.ntmps3
    go_wp2_with fail
    have L := ((Lz.mk0 w).box (w.heap.size) (by simp) b0 a0 len0 cap0)
    refine (awake5_any _ (hT.mono L.below)).mono ?_
    rintro e w1 ⟨rfl, be⟩
    replace L := L.step be
    clear be
    have c00 := L.b0.c0
    have c01 := L.b0.c1
    go_wp2_with fail
    go_ret
    exact ⟨rfl, L.below⟩
  · obtain ⟨z, hz⟩ : ∃ z, sg b0 (val z0) = z := ⟨_, rfl⟩
    have hlv : zl z ≤ 100 := by
      rw [← hz, zl_sg]
      exact Nat.le_trans (len_val_le h0.small) (by rw [h0.len]; exact hsmall)
    have H1 := fun W h => znat_any b0 z0 a0 len0 cap0 W h (by omega)
    have H2 := fun W h => rznat_any b0 z0 a0 len0 cap0 W h (by omega)
    rw [hz] at H1 H2
    have HA := Lib.hid H1
    have HB := Lib.hid H2
    have HC := Lib.hid (fun vx W h => zint_any z vx W h)
    have HD := Lib.hid (fun vx W h => rzint_any z vx W h)
    have H3 := fun vx W h => zint_any a1 vx W h
    rw [zi_yes hb1 hb2, zb_yes hb1 hb2] at H3
    have HE := Lib.hid H3
    have HF := Lib.hid (fun W h => zvalid_any b0 z0 a0 len0 cap0 W h)
    have HG := Lib.hid (fun W h => rzvalid_any b0 z0 a0 len0 cap0 W h)
    have HO := Lib.hid (fun W => zof_any a1 W hb1 hb2)
    have HP := Lib.hid (fun W => rzof_any a1 W hb1 hb2)
    clear H1 H2 H3 hz hlv
    generalize zi z = iz at *
    generalize zb z = bz at *
    generalize sval b0 z0 = sv at *
    go_enter Tryd.func3, Tryd.ntmps3
    go_wp2_with fail
    have L := ((Lz.mk0 w).box (w.heap.size) (by simp) b0 a0 len0 cap0)
    refine (awake5_any _ (hT.mono L.below)).mono ?_
    rintro e w1 ⟨rfl, be⟩
    replace L := L.step be
    clear be
    have c00 := L.b0.c0
    have c01 := L.b0.c1
    go_wp2_with fail
    refine (HA.out _ (h0.mono L.below)).mono ?_
    rintro e w2 ⟨vx, rfl, ix, be⟩
    clear c00 c01
    replace L := (L.step be).z ix
    obtain ⟨A, c, rfl, _⟩ := ix.form
    clear be ix HA
    replace L := L.box w2.heap.size rfl (ng z) A (zl z) c
    go_wp2_with fail
    obtain ⟨g, hg⟩ : ∃ g, w2.heap.size = g := ⟨_, rfl⟩
    rw [hg] at L ⊢
    clear hg
    have c00 := L.b0.c0
    have c01 := L.b0.c1
    have c10 := L.tl.b0.c0
    have c11 := L.tl.b0.c1
    refine (HC.out _ _ (L.getZ (by simp))).mono ?_
    rintro e w3 ⟨rfl, be⟩
    clear c00 c01 c10 c11
    replace L := L.step be
    clear be
    have c00 := L.b0.c0
    have c01 := L.b0.c1
    have c10 := L.tl.b0.c0
    have c11 := L.tl.b0.c1
    go_wp2_with fail
    refine (HD.out _ _ (L.getZ (by simp))).mono ?_
    rintro e w4 ⟨rfl, be⟩
    clear c00 c01 c10 c11
    replace L := L.step be
    clear be
    have c00 := L.b0.c0
    have c01 := L.b0.c1
    have c10 := L.tl.b0.c0
    have c11 := L.tl.b0.c1
    go_wp2_with fail
    refine (HO.out _).mono ?_
    rintro e w5 ⟨v1, rfl, iz1, be⟩
    clear c00 c01 c10 c11
    replace L := (L.step be).z iz1
    clear be iz1
    have c00 := L.b0.c0
    have c01 := L.b0.c1
    have c10 := L.tl.b0.c0
    have c11 := L.tl.b0.c1
    go_wp2_with fail
    refine (HE.out _ _ L.hz).mono ?_
    rintro e w6 ⟨rfl, be⟩
    clear c00 c01 c10 c11
    replace L := L.step be
    clear be
    have c00 := L.b0.c0
    have c01 := L.b0.c1
    have c10 := L.tl.b0.c0
    have c11 := L.tl.b0.c1
    go_wp2_with fail
    replace L := L.drew
    go_region_held3 (fun w' => w'.cell? ⟨w.heap.size, 0, none⟩ = some (.bool (b0)) ∧ w'.cell? ⟨w.heap.size, 1, none⟩ = some (.slice a0 len0 cap0) ∧ w'.cell? ⟨g, 0, none⟩ = some (.bool (ng z)) ∧ w'.cell? ⟨g, 1, none⟩ = some (.slice A (zl z) c)) (first | (with_reducible exact ⟨L.tl.b0.c0, L.tl.b0.c1, L.b0.c0, L.b0.c1⟩) | exact ⟨L.tl.b0.c0, L.tl.b0.c1, L.b0.c0, L.b0.c1⟩) (first | (go_at_call 14; (with_reducible refine (HF.out _ ?_).mono ?_); (· exact (h0.mono L.below)); rintro e wh ⟨rfl, be⟩; replace L := L.step be; clear be) | (go_at_call 15; (with_reducible refine (HG.out _ ?_).mono ?_); (· exact (h0.mono L.below)); rintro e wh ⟨rfl, be⟩; replace L := L.step be; clear be) | (go_at_call 14; (with_reducible refine (zvalidZ_any z _ _ ?_).mono ?_); (· (refine L.getZ ?_; (repeat (first | (with_reducible exact List.mem_cons_self) | apply List.mem_cons_of_mem)))); rintro e wh ⟨rfl, be⟩; replace L := L.step be; clear be) | (go_at_call 17; (with_reducible refine (HB.out _ ?_).mono ?_); (· exact (h0.mono L.below)); rintro e wh ⟨vh, rfl, iz, be⟩; replace L := (L.step be).z iz; clear iz be) | (go_at_call 16; (with_reducible refine (zsame_yes z z _ _ _ ?_ ?_ rfl).mono ?_); (· (refine L.getZ ?_; (repeat (first | (with_reducible exact List.mem_cons_self) | apply List.mem_cons_of_mem)))); (· (refine L.getZ ?_; (repeat (first | (with_reducible exact List.mem_cons_self) | apply List.mem_cons_of_mem)))); rintro e wh ⟨rfl, be⟩; replace L := L.step be; clear be) | (go_at_call 13; (with_reducible refine (HO.out _).mono ?_); rintro e wh ⟨vh, rfl, iz, be⟩; replace L := (L.step be).z iz; clear iz be) | (go_at_call 18; (with_reducible refine (HP.out _).mono ?_); rintro e wh ⟨vh, rfl, iz, be⟩; replace L := (L.step be).z iz; clear iz be) | (go_at_call 16; (with_reducible refine (zsame_yes a1 a1 _ _ _ ?_ ?_ rfl).mono ?_); (· (refine L.getZ ?_; (repeat (first | (with_reducible exact List.mem_cons_self) | apply List.mem_cons_of_mem)))); (· (refine L.getZ ?_; (repeat (first | (with_reducible exact List.mem_cons_self) | apply List.mem_cons_of_mem)))); rintro e wh ⟨rfl, be⟩; replace L := L.step be; clear be))
    go_wp2_with fail
    go_ret
    exact ⟨rfl, L.below⟩

end Go.Proofs.YtajegednakenbaaDoor
