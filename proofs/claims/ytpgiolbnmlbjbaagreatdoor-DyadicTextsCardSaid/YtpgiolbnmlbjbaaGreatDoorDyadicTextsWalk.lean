/- The walk of DyadicTexts: whatever the input, the law returns true and turns nothing that was there. -/
import Derived.Test.YtpgiolbnmlbjbaaGreatDoorAwake8
import Derived.Test.YtpgiolbnmlbjbaaGreatDoorMillDy
import Derived.Test.YtpgiolbnmlbjbaaGreatDoorDyLaw
import Derived.Test.YtpgiolbnmlbjbaaGreatDoorDyPE
import Derived.Test.YtpgiolbnmlbjbaaGreatDoorDyPF
import Derived.Test.YtpgiolbnmlbjbaaGreatDoorRefDyF
import Derived.Test.YtpgiolbnmlbjbaaGreatDoorRefDyE
import Derived.Deep.RegionHeld3
import Derived.Deep.DrawnRows
namespace Go.Proofs.YtpgiolbnmlbjbaaGreatDoor
open Go.RowKit
set_option linter.unusedVariables false
set_option linter.unusedSimpArgs false
set_option maxRecDepth 100000
attribute [local go_sem ↓] Go.wp_at_zero Go.wp_at_succ

set_option maxHeartbeats 4000000 in
theorem walk_DyadicTexts (b0 : Bool) (a0 : Option Addr) (len0 cap0 : Nat) (z0 : List Nat) (f0 : Int) (w : World) (h0 : Sl w a0 len0 cap0 z0) (u0 : -9223372036854775808 ≤ f0) (t0 : f0 ≤ 9223372036854775807) (hT : Tab w) (hP : Pow10 w) :
    Calls Tryz.prog 8 #[.agg #[.bool b0, .slice a0 len0 cap0, .int .i64 f0]] w (fun e w' => e = .returned (.bool true) ∧ Below w.heap.size w w') := by
  go_enter Tryz.func8, Tryz.ntmps8
  go_wp2_with fail
  have L := ((Lq.mk0 w).varD (w.heap.size) (by simp) b0 a0 len0 cap0 f0)
  (try go_wp2_with fail)
  refine (awake8_any _ (hT.mono L.below) (hP.mono L.below)).mono ?_
  rintro e w1 ⟨rfl, be⟩
  replace L := L.step be
  clear be
  have c00 := L.b0.c30
  have c01 := L.b0.c31
  have c02 := L.b0.c32
  go_wp2_with fail
  refine (millD_any b0 z0 20 60000 a0 len0 cap0 f0 _ (h0.mono L.below) (by omega) (by omega) u0 t0).mono ?_
  rintro e9 w2 ⟨vx, ok, m, e, rfl, ix, lm, he1, he2, hv, be⟩
  clear c00 c01 c02
  obtain ⟨A, c, rfl, izx, inx⟩ := ix.form
  replace L := ((L.step be).n inx).z izx
  clear be ix izx inx
  have hlt0 := L.b0.lt
  replace L := L.varD w2.heap.size rfl (ng m) A (zl m) c e
  cases ok
  · go_wp2_with fail
    go_ret
    exact ⟨rfl, L.below⟩
  · have HV := hv rfl
    clear hv
    obtain ⟨e1, e2, e3⟩ := read_fmt HV (by omega)
    have hb := fmtD_byt m e
    have hl : (fmtD m e).length ≤ 1000000 := by
      have h9 : ¬ 20010 < (fmtD m e).length := fun h9 => by rw [(err8_long h9).1] at e1; exact absurd e1 (by decide)
      omega
    have p1 := fun W => dparse_any (fmtD m e) W hb hl
    rw [e1, e2, e3] at p1
    have H1 := Lib.hid (fun v W h (hW : Below w.heap.size w W) => dformat_any m e v W h (by omega) (by omega) (hP.mono hW))
    have H2 := Lib.hid (fun v W h => rformat8_any m e v W h (by omega) (by omega))
    have s3 := fun v u W h1 h2 => same8_any m e m e v u W h1 h2
    rw [decide_eq_true (rfl : e = e), decide_eq_true (rfl : m = m), Bool.true_and] at s3
    have HS := Lib.hid s3
    have HP := Lib.hid p1
    clear e1 e2 e3 hb hl p1 s3 HV lm he1 he2 hT hP h0 u0 t0
    generalize fmtD m e = T at *
    go_wp2_with fail
    obtain ⟨g, hg⟩ : ∃ g, w2.heap.size = g := ⟨_, rfl⟩
    rw [hg] at L hlt0 ⊢
    clear hg
    have c00 := L.b0.c30
    have c01 := L.b0.c31
    have c02 := L.b0.c32
    have c10 := L.tl.b0.c30
    have c11 := L.tl.b0.c31
    have c12 := L.tl.b0.c32
    (try go_wp2_with fail)
    refine (H1.out _ _ (isD_n (L.getN (by simp))) L.below).mono ?_
    rintro e w3 ⟨rfl, be⟩
    clear c00 c01 c02 c10 c11 c12
    replace L := L.step be
    clear be
    go_wp2_with fail
    refine (HP.out _).mono ?_
    rintro e w4 ⟨vy, rfl, id, be⟩
    obtain ⟨A2, c2, rfl, _, in9⟩ := id.form
    replace L := (L.step be).n in9
    clear be id in9
    replace L := L.varD w4.heap.size rfl (ng m) A2 (zl m) c2 e
    go_wp2_with fail
    obtain ⟨g2, hg⟩ : ∃ g, w4.heap.size = g := ⟨_, rfl⟩
    rw [hg] at L ⊢
    clear hg
    replace L := L.drew
    have q2 : ((str T).toList == (str T).toList) = true := by simp
    have c00 := L.b0.c30
    have c01 := L.b0.c31
    have c02 := L.b0.c32
    have c10 := L.tl.b0.c30
    have c11 := L.tl.b0.c31
    have c12 := L.tl.b0.c32
    have c20 := L.tl.tl.b0.c30
    have c21 := L.tl.tl.b0.c31
    have c22 := L.tl.tl.b0.c32
    go_region_held3 (fun w' => w'.cell? ⟨g, 0, none⟩ = some (.bool (ng m)) ∧ w'.cell? ⟨g, 1, none⟩ = some (.slice A (zl m) c) ∧ w'.cell? ⟨g, 2, none⟩ = some (.int .i64 e) ∧ w'.cell? ⟨g2, 0, none⟩ = some (.bool (ng m)) ∧ w'.cell? ⟨g2, 1, none⟩ = some (.slice A2 (zl m) c2) ∧ w'.cell? ⟨g2, 2, none⟩ = some (.int .i64 e)) (first | (with_reducible exact ⟨L.tl.b0.c30, L.tl.b0.c31, L.tl.b0.c32, L.b0.c30, L.b0.c31, L.b0.c32⟩) | exact ⟨L.tl.b0.c30, L.tl.b0.c31, L.tl.b0.c32, L.b0.c30, L.b0.c31, L.b0.c32⟩) (first | (go_at_call 47; (with_reducible refine (H1.out _ _ ?_ ?_ ).mono ?_); (· (refine isD_n (L.getN ?_); (repeat (first | (with_reducible exact List.mem_cons_self) | apply List.mem_cons_of_mem)))); (· exact L.below); rintro e wh ⟨rfl, be⟩; replace L := L.step be; clear be) | (go_at_call 48; (with_reducible refine (H2.out _ _ ?_ ).mono ?_); (· (refine isD_n (L.getN ?_); (repeat (first | (with_reducible exact List.mem_cons_self) | apply List.mem_cons_of_mem)))); rintro e wh ⟨rfl, be⟩; replace L := L.step be; clear be) | (go_at_call 16; (with_reducible refine (HS.out _ _ _ ?_ ?_ ).mono ?_); (· (refine isD_n (L.getN ?_); (repeat (first | (with_reducible exact List.mem_cons_self) | apply List.mem_cons_of_mem)))); (· (refine isD_n (L.getN ?_); (repeat (first | (with_reducible exact List.mem_cons_self) | apply List.mem_cons_of_mem)))); rintro e wh ⟨rfl, be⟩; replace L := L.step be; clear be))
    clear c00 c01 c02 c10 c11 c12 c20 c21 c22
    go_wp2_with fail
    go_ret
    exact ⟨rfl, L.below⟩

end Go.Proofs.YtpgiolbnmlbjbaaGreatDoor
