/- The sanity check of layer 5: the examples of chapter 5 hold. -/
import Derived.Test.YtajegednakenbaaDoorIntE
import Derived.Test.YtajegednakenbaaDoorIntF
import Derived.Test.YtajegednakenbaaDoorRefIntB
import Derived.Test.YtajegednakenbaaDoorMillInt
import Derived.Deep.RegionHeld3
import Derived.Deep.DrawnRows
namespace Go.Proofs.YtajegednakenbaaDoor
open Go.RowKit
set_option linter.unusedVariables false
set_option linter.unusedSimpArgs false
attribute [local go_sem ↓] Go.wp_at_zero Go.wp_at_succ

set_option maxHeartbeats 4000000 in
theorem awake5_any (w : World) (hT : Tab w) :
    Calls Tryd.prog 9 #[] w (fun e w' => e = .returned (.bool true) ∧ Below w.heap.size w w') := by
  have l7 : zl (-7) ≤ 1 := len_le1 (show 7 < 4294967296 by omega)
  have l7' : zl 7 ≤ 1 := len_le1 (show 7 < 4294967296 by omega)
  have l2 : zl 2 ≤ 1 := len_le1 (show 2 < 4294967296 by omega)
  have l2' : zl (-2) ≤ 1 := len_le1 (show 2 < 4294967296 by omega)
  have l1 : zl (-1) ≤ 1 := len_le1 (show 1 < 4294967296 by omega)
  have T := Lib.hid hT
  have e1 : (-7 : Int).fdiv 2 = -4 := by decide
  have e2 : (-7 : Int).fmod 2 = 1 := by decide
  have e3 : (7 : Int).fdiv (-2) = -4 := by decide
  have e4 : (7 : Int).fmod (-2) = -1 := by decide
  have e5 : (-1 : Int) / 2 ^ 5 = -1 := by decide
  have d1 := fun vx vy W h1 h2 => zdivmod_any (-7) 2 vx vy W h1 h2 (by omega) (by omega) (by omega)
  have d2 := fun vx vy W h1 h2 => zdivmod_any 7 (-2) vx vy W h1 h2 (by omega) (by omega) (by omega)
  have d3 := fun v W h h2 => zshr_any (-1) v W h (by omega) 5 (by omega) h2
  rw [e1, e2] at d1
  rw [e3, e4] at d2
  rw [e5] at d3
  have D1 := Lib.hid d1
  have D2 := Lib.hid d2
  have HSH := Lib.hid (show ∀ v W, IsZ W v (-1) → Tab W → Calls Tryd.prog 37 #[v, .int .i64 5] W (RetZ W (-1)) from d3)
  clear d1 d2 d3 e1 e2 e3 e4 e5
  clear l7 l7' l2 l2' l1 hT
  go_enter Tryd.func9, Tryd.ntmps9
  go_wp2_with fail
  have L := Lz.mk0 w
  refine (zof_any (-7) _ (by omega) (by omega)).mono ?_
  rintro e w1 ⟨v1, rfl, iz, be⟩
  replace L := (L.step be).z iz
  clear be iz
  go_wp2_with fail
  refine (zof_any (2) _ (by omega) (by omega)).mono ?_
  rintro e w2 ⟨v2, rfl, iz, be⟩
  replace L := (L.step be).z iz
  clear be iz
  go_wp2_with fail
  refine (D1.out _ _ _ (L.getZ (by simp)) (L.getZ (by simp))).mono ?_
  rintro e w3 ⟨vq1, vr1, rfl, iq, ir, be⟩
  replace L := ((L.step be).z iq).z ir
  obtain ⟨A1, c1, rfl, _⟩ := iq.form
  obtain ⟨B1, d1, rfl, _⟩ := ir.form
  clear be iq ir D1
  replace L := ((L.box w3.heap.size rfl (ng (-4)) A1 (zl (-4)) c1).box (w3.heap.size + 1) (by simp) (ng (1)) B1 (zl (1)) d1)
  go_wp2_with fail
  obtain ⟨g1, hg1⟩ : ∃ g, w3.heap.size = g := ⟨_, rfl⟩
  rw [hg1] at L ⊢
  clear hg1
  refine (zof_any (7) _ (by omega) (by omega)).mono ?_
  rintro e w4 ⟨v5, rfl, iz, be⟩
  replace L := (L.step be).z iz
  clear be iz
  go_wp2_with fail
  refine (zof_any (-2) _ (by omega) (by omega)).mono ?_
  rintro e w5 ⟨v6, rfl, iz, be⟩
  replace L := (L.step be).z iz
  clear be iz
  go_wp2_with fail
  refine (D2.out _ _ _ (L.getZ (by simp)) (L.getZ (by simp))).mono ?_
  rintro e w6 ⟨vq2, vr2, rfl, iq, ir, be⟩
  replace L := ((L.step be).z iq).z ir
  obtain ⟨A2, c2, rfl, _⟩ := iq.form
  obtain ⟨B2, d2, rfl, _⟩ := ir.form
  clear be iq ir D2
  replace L := ((L.box w6.heap.size rfl (ng (-4)) A2 (zl (-4)) c2).box (w6.heap.size + 1) (by simp) (ng (-1)) B2 (zl (-1)) d2)
  go_wp2_with fail
  obtain ⟨g2, hg2⟩ : ∃ g, w6.heap.size = g := ⟨_, rfl⟩
  rw [hg2] at L ⊢
  clear hg2
  replace L := L.drew
  go_region_held3 (fun w' => w'.cell? ⟨g2 + 1, 0, none⟩ = some (.bool (ng (-1))) ∧ w'.cell? ⟨g2 + 1, 1, none⟩ = some (.slice B2 (zl (-1)) d2) ∧ w'.cell? ⟨g2, 0, none⟩ = some (.bool (ng (-4))) ∧ w'.cell? ⟨g2, 1, none⟩ = some (.slice A2 (zl (-4)) c2) ∧ w'.cell? ⟨g1 + 1, 0, none⟩ = some (.bool (ng (1))) ∧ w'.cell? ⟨g1 + 1, 1, none⟩ = some (.slice B1 (zl (1)) d1) ∧ w'.cell? ⟨g1, 0, none⟩ = some (.bool (ng (-4))) ∧ w'.cell? ⟨g1, 1, none⟩ = some (.slice A1 (zl (-4)) c1)) (first | (with_reducible exact ⟨L.b0.c0, L.b0.c1, L.tl.b0.c0, L.tl.b0.c1, L.tl.tl.b0.c0, L.tl.tl.b0.c1, L.tl.tl.tl.b0.c0, L.tl.tl.tl.b0.c1⟩) | exact ⟨L.b0.c0, L.b0.c1, L.tl.b0.c0, L.tl.b0.c1, L.tl.tl.b0.c0, L.tl.tl.b0.c1, L.tl.tl.tl.b0.c0, L.tl.tl.tl.b0.c1⟩) (first | (go_at_call 18; (with_reducible refine (rzof_any _ _ ?_ ?_).mono ?_); (· omega); (· omega); rintro e wh ⟨vh, rfl, iz, be⟩; replace L := (L.step be).z iz; clear iz be) | (go_at_call 13; (with_reducible refine (zof_any _ _ ?_ ?_).mono ?_); (· omega); (· omega); rintro e wh ⟨vh, rfl, iz, be⟩; replace L := (L.step be).z iz; clear iz be) | (go_at_call 37; (with_reducible refine (HSH.out _ _ ?_ ?_).mono ?_); (· (refine L.getZ ?_; (repeat (first | (with_reducible exact List.mem_cons_self) | apply List.mem_cons_of_mem)))); (· exact (T.out.mono L.below)); rintro e wh ⟨vh, rfl, iz, be⟩; replace L := (L.step be).z iz; clear iz be) | (go_at_call 16; (with_reducible refine (zsame_yes (-4) (-4) _ _ _ ?_ ?_ rfl).mono ?_); (· (refine L.getZ ?_; (repeat (first | (with_reducible exact List.mem_cons_self) | apply List.mem_cons_of_mem)))); (· (refine L.getZ ?_; (repeat (first | (with_reducible exact List.mem_cons_self) | apply List.mem_cons_of_mem)))); rintro e wh ⟨rfl, be⟩; replace L := L.step be; clear be) | (go_at_call 16; (with_reducible refine (zsame_yes 1 1 _ _ _ ?_ ?_ rfl).mono ?_); (· (refine L.getZ ?_; (repeat (first | (with_reducible exact List.mem_cons_self) | apply List.mem_cons_of_mem)))); (· (refine L.getZ ?_; (repeat (first | (with_reducible exact List.mem_cons_self) | apply List.mem_cons_of_mem)))); rintro e wh ⟨rfl, be⟩; replace L := L.step be; clear be) | (go_at_call 16; (with_reducible refine (zsame_yes (-1) (-1) _ _ _ ?_ ?_ rfl).mono ?_); (· (refine L.getZ ?_; (repeat (first | (with_reducible exact List.mem_cons_self) | apply List.mem_cons_of_mem)))); (· (refine L.getZ ?_; (repeat (first | (with_reducible exact List.mem_cons_self) | apply List.mem_cons_of_mem)))); rintro e wh ⟨rfl, be⟩; replace L := L.step be; clear be))
  go_wp2_with fail
  go_ret
  exact ⟨rfl, L.below⟩

end Go.Proofs.YtajegednakenbaaDoor
