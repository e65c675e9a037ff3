/- The reference's Size. -/
import Derived.Test.YtbndgggjfjdfbaaGreatDoorRefRatC
import Derived.Deep.RegionHeld3
import Derived.Deep.DrawnRows
namespace Go.Proofs.YtbndgggjfjdfbaaGreatDoor
open Go.RowKit
set_option linter.unusedVariables false
set_option linter.unusedSimpArgs false
set_option maxRecDepth 100000
attribute [local go_sem ↓] Go.wp_at_zero Go.wp_at_succ

set_option maxHeartbeats 1000000 in
theorem rsize7_any (a : Int) (d : Nat) (vx : Value) (w : World) (hx : IsP w vx a d) (la : zl a ≤ 100000000) (ld : len d ≤ 100000000) :
    Calls Tryz.prog 35 #[vx] w (RetI w (max (blen a.natAbs : Int) (blen d : Int))) := by
  obtain ⟨A, c, B, g, rfl, _, hn, hd⟩ := hx.form
  have H1 := Lib.hid (fun W h => rbits_any a.natAbs (.slice A (zl a) c) W h (Nat.le_trans la (by omega)))
  have H2 := Lib.hid (fun W h => rbits_any d (.slice B (len d) g) W h (Nat.le_trans ld (by omega)))
  have L0 := ((Lq.mk0 w).n hd).n hn
  clear hx hd hn
  generalize blen a.natAbs = p at *
  generalize blen d = q at *
  go_enter Tryz.func35, Tryz.ntmps35
  go_wp2_with fail
  have L := (L0.varQ (w.heap.size) (by simp) (ng a) A B (zl a) c (len d) g)
  replace L := L.drew
  have c00 := L.b0.c30
  have f00 := L.b0.fr 0
  have c01 := L.b0.c31
  have f01 := L.b0.fr 1
  have c02 := L.b0.c32
  have f02 := L.b0.fr 2
  go_region_held3 (fun w' => w'.cell? ⟨w.heap.size, 0, none⟩ = some (.bool (ng a)) ∧ w'.cell? ⟨w.heap.size, 1, none⟩ = some (.slice A (zl a) c) ∧ w'.cell? ⟨w.heap.size, 2, none⟩ = some (.slice B (len d) g)) (first | (with_reducible exact ⟨L.b0.c30, L.b0.c31, L.b0.c32⟩) | exact ⟨L.b0.c30, L.b0.c31, L.b0.c32⟩) (first | (go_at_call 75; (with_reducible refine (H1.out _ ?_ ).mono ?_); (· (refine L.getN ?_; (repeat (first | (with_reducible exact List.mem_cons_self) | apply List.mem_cons_of_mem)))); rintro e wh ⟨rfl, rfl⟩; skip) | (go_at_call 75; (with_reducible refine (H2.out _ ?_ ).mono ?_); (· (refine L.getN ?_; (repeat (first | (with_reducible exact List.mem_cons_self) | apply List.mem_cons_of_mem)))); rintro e wh ⟨rfl, rfl⟩; skip))
  clear c00 f00 c01 f01 c02 f02
  go_wp2_with fail
  go_ret
  exact ⟨rfl, L.below⟩

end Go.Proofs.YtbndgggjfjdfbaaGreatDoor
