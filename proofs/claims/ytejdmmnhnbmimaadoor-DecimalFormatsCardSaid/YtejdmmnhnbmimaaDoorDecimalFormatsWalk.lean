/- The walk of DecimalFormats: whatever the input, the law returns true and turns nothing that was there. -/
import Derived.Test.YtejdmmnhnbmimaaDoorAwake6
import Derived.Test.YtejdmmnhnbmimaaDoorRefDig
import Derived.Test.YtejdmmnhnbmimaaDoorBaseJ
import Derived.Deep.RegionHeld3
import Derived.Deep.DrawnRows
namespace Go.Proofs.YtejdmmnhnbmimaaDoor
open Go.RowKit
set_option linter.unusedVariables false
set_option linter.unusedSimpArgs false
set_option maxRecDepth 100000
attribute [local go_sem ↓] Go.wp_at_zero Go.wp_at_succ

set_option maxHeartbeats 2000000 in
theorem walk_DecimalFormats (b0 : Bool) (a0 : Option Addr) (len0 cap0 : Nat) (z0 : List Nat) (w : World) (h0 : Sl w a0 len0 cap0 z0) :
    Calls Tryd.prog 3 #[.agg #[.bool b0, .slice a0 len0 cap0]] w (fun e w' => e = .returned (.bool true) ∧ Below w.heap.size w w') := by
  go_enter Tryd.func3, Tryd.ntmps3
  go_wp2_with fail
  have L := (Lz.mk0 w).box (w.heap.size) (by simp) b0 a0 len0 cap0
  refine (awake6_any _).mono ?_
  rintro e w1 ⟨rfl, be⟩
  replace L := L.step be
  clear be
  have c00 := L.b0.c0
  have c01 := L.b0.c1
  go_wp2_with fail
  refine (millZ_any b0 z0 25 a0 len0 cap0 _ (h0.mono L.below) (by omega)).mono ?_
  rintro e w2 ⟨vx, ok, x, rfl, ix, lx, be⟩
  clear c00 c01
  obtain ⟨A, c, rfl, hn⟩ := ix.form
  replace L := ((L.step be).z ix).n hn
  clear be ix hn
  replace L := L.box w2.heap.size rfl (ng x) A (zl x) c
  cases ok
  · go_wp2_with fail
    go_ret
    exact ⟨rfl, L.below⟩
  · go_wp2_with fail
    obtain ⟨g, hg⟩ : ∃ g, w2.heap.size = g := ⟨_, rfl⟩
    rw [hg] at L ⊢
    clear hg
    replace L := L.drew
    have lxn : len x.natAbs ≤ 25 := lx
    have H1 := Lib.hid (fun v W h => format_any x v W h (by omega))
    have H2 := Lib.hid (fun v W h => rformat_any x v W h (by omega))
    have H3 := Lib.hid (fun v W h => digits_any x.natAbs v W h (by omega))
    have H4 := Lib.hid (fun v W h => rdigits_any x.natAbs v W h (by omega))
    clear h0
    generalize fmt x = F at *
    generalize dd x.natAbs = D at *
    go_region_held3 (fun w' => w'.cell? ⟨g, 0, none⟩ = some (.bool (ng x)) ∧ w'.cell? ⟨g, 1, none⟩ = some (.slice A (zl x) c)) (first | (with_reducible exact ⟨L.b0.c0, L.b0.c1⟩) | exact ⟨L.b0.c0, L.b0.c1⟩) (first | (go_at_call 11; (with_reducible refine (H1.out _ _ ?_).mono ?_); (· (refine L.getZ ?_; (repeat (first | (with_reducible exact List.mem_cons_self) | apply List.mem_cons_of_mem)))); rintro e wh ⟨rfl, be⟩; replace L := L.step be; clear be) | (go_at_call 12; (with_reducible refine (H2.out _ _ ?_).mono ?_); (· (refine L.getZ ?_; (repeat (first | (with_reducible exact List.mem_cons_self) | apply List.mem_cons_of_mem)))); rintro e wh ⟨rfl, be⟩; replace L := L.step be; clear be) | (go_at_call 13; (with_reducible refine (H3.out _ _ ?_).mono ?_); (· (refine L.getN ?_; (repeat (first | (with_reducible exact List.mem_cons_self) | apply List.mem_cons_of_mem)))); rintro e wh ⟨rfl, be⟩; replace L := L.step be; clear be) | (go_at_call 14; (with_reducible refine (H4.out _ _ ?_).mono ?_); (· (refine L.getN ?_; (repeat (first | (with_reducible exact List.mem_cons_self) | apply List.mem_cons_of_mem)))); rintro e wh ⟨rfl, be⟩; replace L := L.step be; clear be))
    go_wp2_with fail
    go_ret
    exact ⟨rfl, L.below⟩

end Go.Proofs.YtejdmmnhnbmimaaDoor
