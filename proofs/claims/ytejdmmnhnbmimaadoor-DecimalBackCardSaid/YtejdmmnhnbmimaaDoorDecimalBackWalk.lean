/- The walk of DecimalBack: whatever the input, the law returns true and turns nothing that was there. -/
import Derived.Test.YtejdmmnhnbmimaaDoorAwake6
import Derived.Test.YtejdmmnhnbmimaaDoorBaseJ
namespace Go.Proofs.YtejdmmnhnbmimaaDoor
open Go.RowKit
set_option linter.unusedVariables false
set_option linter.unusedSimpArgs false
set_option maxRecDepth 100000
attribute [local go_sem ↓] Go.wp_at_zero Go.wp_at_succ

theorem back_parse (z : Int) (h : zl z ≤ 1000) (W : World) : Calls Tryd.prog 15 #[.string (str (fmt z))] W (RetZE W z 0) := by
  have hl := fmt_length (z := z) (n := 1000) h
  obtain ⟨e1, e2⟩ := parse_fmt z (by omega)
  have := parse_any (fmt z) W (fmt_byt z) (by omega)
  rw [e1, e2] at this
  exact this
theorem back_natural (x : Nat) (h : len x ≤ 1000) (W : World) : Calls Tryd.prog 16 #[.string (str (dd x))] W (RetNE W x 0) := by
  have hl := dd_length h
  obtain ⟨e1, e2⟩ := natural_dd x (by omega)
  have := natural_any (dd x) W (dd_byt x) (by omega)
  rw [e1, e2] at this
  exact this

set_option maxHeartbeats 2000000 in
theorem walk_DecimalBack (b0 : Bool) (a0 : Option Addr) (len0 cap0 : Nat) (z0 : List Nat) (w : World) (h0 : Sl w a0 len0 cap0 z0) :
    Calls Tryd.prog 4 #[.agg #[.bool b0, .slice a0 len0 cap0]] w (fun e w' => e = .returned (.bool true) ∧ Below w.heap.size w w') := by
  go_enter Tryd.func4, Tryd.ntmps4
  go_wp2_with fail
  have L := (Lz.mk0 w).box (w.heap.size) (by simp) b0 a0 len0 cap0
  refine (awake6_any _).mono ?_
  rintro e w1 ⟨rfl, be⟩
  replace L := L.step be
  clear be
  have c00 := L.b0.c0
  have c01 := L.b0.c1
  go_wp2_with fail
  refine (millZ_any b0 z0 120 a0 len0 cap0 _ (h0.mono L.below) (by omega)).mono ?_
  rintro e w2 ⟨vx, ok, x, rfl, ix, lx, be⟩
  clear c00 c01
  obtain ⟨A, c, rfl, hn⟩ := ix.form
  replace L := ((L.step be).z ix).n hn
  clear be ix hn
  replace L := L.box w2.heap.size rfl (ng x) A (zl x) c
  cases ok
  · go_wp2_with fail
    go_ret
    exact ⟨rfl, L.below⟩
  · have lxn : len x.natAbs ≤ 120 := lx
    have H1 := Lib.hid (fun v W h => format_any x v W h (by omega))
    have H2 := Lib.hid (back_parse x (by omega))
    have H3 := Lib.hid (fun v W h => digits_any x.natAbs v W h (by omega))
    have H4 := Lib.hid (back_natural x.natAbs (by omega))
    have h5 := fun va vb W => same_any x.natAbs x.natAbs va vb W
    rw [show sameB x.natAbs x.natAbs = true from decide_eq_true rfl] at h5
    have H5 := Lib.hid h5
    clear h0 h5
    generalize fmt x = F at *
    generalize dd x.natAbs = D at *
    have c00 := L.b0.c0
    have c01 := L.b0.c1
    go_wp2_with fail
    obtain ⟨g, hg⟩ : ∃ g, w2.heap.size = g := ⟨_, rfl⟩
    rw [hg] at L c00 c01 ⊢
    clear hg
    refine (H1.out _ _ (L.getZ (by simp))).mono ?_
    rintro e w3 ⟨rfl, be⟩
    clear c00 c01
    replace L := L.step be
    clear be
    have c00 := L.b0.c0
    have c01 := L.b0.c1
    go_wp2_with fail
    refine (H2.out _).mono ?_
    rintro e w4 ⟨vy, rfl, iy, be⟩
    clear c00 c01
    replace L := (L.step be).z iy
    obtain ⟨B, d, rfl, _⟩ := iy.form
    clear be iy
    replace L := L.box w4.heap.size rfl (ng x) B (zl x) d
    have c00 := L.b0.c0
    have c01 := L.b0.c1
    have c10 := L.tl.b0.c0
    have c11 := L.tl.b0.c1
    go_wp2_with fail
    obtain ⟨g2, hg2⟩ : ∃ g, w4.heap.size = g := ⟨_, rfl⟩
    rw [hg2] at L c00 c01 ⊢
    clear hg2
    refine (H3.out _ _ (L.getN (by simp))).mono ?_
    rintro e w5 ⟨rfl, be⟩
    clear c00 c01 c10 c11
    replace L := L.step be
    clear be
    have c00 := L.b0.c0
    have c01 := L.b0.c1
    have c10 := L.tl.b0.c0
    have c11 := L.tl.b0.c1
    go_wp2_with fail
    refine (H4.out _).mono ?_
    rintro e w6 ⟨vn, rfl, hn, be⟩
    clear c00 c01 c10 c11
    replace L := (L.step be).n hn
    clear be hn
    have c00 := L.b0.c0
    have c01 := L.b0.c1
    have c10 := L.tl.b0.c0
    have c11 := L.tl.b0.c1
    go_wp2_with fail
    refine (zsame_yes x x _ _ _ (L.getZ (by simp)) (L.getZ (by simp)) rfl).mono ?_
    rintro e w7 ⟨rfl, be⟩
    clear c00 c01 c10 c11
    replace L := L.step be
    clear be
    have c00 := L.b0.c0
    have c01 := L.b0.c1
    have c10 := L.tl.b0.c0
    have c11 := L.tl.b0.c1
    go_wp2_with fail
    refine (H5.out _ _ _ (L.getN (by simp)) (L.getN (by simp))).mono ?_
    rintro e w8 ⟨rfl, rfl⟩
    go_wp2_with fail
    go_ret
    exact ⟨rfl, L.below⟩

end Go.Proofs.YtejdmmnhnbmimaaDoor
