/- The walk of DyadicFrom: whatever the input, the law returns true and turns nothing that was there. -/
import Derived.Test.YtpgiolbnmlbjbaaGreatDoorAwake8
import Derived.Test.YtpgiolbnmlbjbaaGreatDoorMillDy
import Derived.Test.YtpgiolbnmlbjbaaGreatDoorMillRat
import Derived.Test.YtpgiolbnmlbjbaaGreatDoorDyLaw
import Derived.Test.YtpgiolbnmlbjbaaGreatDoorDyPD
import Derived.Test.YtpgiolbnmlbjbaaGreatDoorRefDyE
import Derived.Test.YtpgiolbnmlbjbaaGreatDoorRefRatC
import Derived.Deep.RegionHeld3
import Derived.Deep.DrawnRows
namespace Go.Proofs.YtpgiolbnmlbjbaaGreatDoor
open Go.RowKit
set_option linter.unusedVariables false
set_option linter.unusedSimpArgs false
set_option maxRecDepth 100000
attribute [local go_sem ↓] Go.wp_at_zero Go.wp_at_succ

set_option maxHeartbeats 4000000 in
theorem walk_DyadicFrom (b0 : Bool) (a0 : Option Addr) (len0 cap0 : Nat) (z0 : List Nat) (f0 : Int) (b1 : Bool) (a1 : Option Addr) (len1 cap1 : Nat) (z1 : List Nat) (x1 : Option Addr) (nen1 nap1 : Nat) (y1 : List Nat) (w : World) (h0 : Sl w a0 len0 cap0 z0) (u0 : -9223372036854775808 ≤ f0) (t0 : f0 ≤ 9223372036854775807) (h1 : Sl w a1 len1 cap1 z1 ∧ Sl w x1 nen1 nap1 y1) (hT : Tab w) (hP : Pow10 w) :
    Calls Tryz.prog 7 #[.agg #[.bool b0, .slice a0 len0 cap0, .int .i64 f0], .agg #[.bool b1, .slice a1 len1 cap1, .slice x1 nen1 nap1]] w (fun e w' => e = .returned (.bool true) ∧ Below w.heap.size w w') := by
  go_enter Tryz.func7, Tryz.ntmps7
  go_wp2_with fail
  have L := (((Lq.mk0 w).varD (w.heap.size) (by simp) b0 a0 len0 cap0 f0).varQ (w.heap.size + 1) (by simp) b1 a1 x1 len1 cap1 nen1 nap1)
  (try go_wp2_with fail)
  refine (awake8_any _ (hT.mono L.below) (hP.mono L.below)).mono ?_
  rintro e w1 ⟨rfl, be⟩
  replace L := L.step be
  clear be
  have c00 := L.b0.c30
  have c01 := L.b0.c31
  have c02 := L.b0.c32
  have c10 := L.tl.b0.c30
  have c11 := L.tl.b0.c31
  have c12 := L.tl.b0.c32
  go_wp2_with fail
  refine (millD_any b0 z0 12 300 a0 len0 cap0 f0 _ (h0.mono L.below) (by omega) (by omega) u0 t0).mono ?_
  rintro e9 w2 ⟨vx, ok, m, e, rfl, ix, lm, he1, he2, hv, be⟩
  clear c00 c01 c02 c10 c11 c12
  obtain ⟨A, c, rfl, izx, inx⟩ := ix.form
  replace L := ((L.step be).n inx).z izx
  clear be ix izx inx
  replace L := L.varD w2.heap.size rfl (ng m) A (zl m) c e
  have c00 := L.b0.c30
  have c01 := L.b0.c31
  have c02 := L.b0.c32
  have c10 := L.tl.b0.c30
  have c11 := L.tl.b0.c31
  have c12 := L.tl.b0.c32
  have c20 := L.tl.tl.b0.c30
  have c21 := L.tl.tl.b0.c31
  have c22 := L.tl.tl.b0.c32
  go_wp2_with fail
  obtain ⟨g, hg⟩ : ∃ g, w2.heap.size = g := ⟨_, rfl⟩
  rw [hg] at L c00 c01 c02 ⊢
  clear hg
  refine (millRat_any b1 z1 y1 8 a1 x1 len1 cap1 nen1 nap1 _ (h1.1.mono L.below) (h1.2.mono L.below) (by omega)).mono ?_
  rintro e9 w3 ⟨vq, ok2, a, d, rfl, iq, la, ld, hv2, be⟩
  clear c00 c01 c02 c10 c11 c12 c20 c21 c22
  replace L := (L.step be).q iq
  obtain ⟨A1, c1, B1, d1, rfl, _, _, _⟩ := iq.form
  clear be iq
  replace L := L.varQ w3.heap.size rfl (ng a) A1 B1 (zl a) c1 (len d) d1
  cases ok
  · go_wp2_with fail
    go_ret
    exact ⟨rfl, L.below⟩
  cases ok2
  · go_wp2_with fail
    go_ret
    exact ⟨rfl, L.below⟩
  have HV := hv rfl
  have hd0 : 0 < d := by obtain ⟨q, _, e1⟩ := hv2 rfl; rw [e1]; exact den_pos' q
  clear hv hv2
  obtain ⟨e1, e2, e3⟩ := from_back HV
  have l1 := zl_two m e.toNat
  have l2 := len_two (-e).toNat
  have x1 := fun v W h => drat_any m e v W h (by omega) (by omega)
  have x2 := fun v W h => rrat8_any m e v W h (by omega) (by omega)
  have p1 := fun v W h (hW : Below w.heap.size w W) => dfrom_any (m * 2 ^ e.toNat) (2 ^ (-e).toNat) v W h (by omega) (by omega) (two_pos8 _) (hT.mono hW)
  rw [e1, e2, e3] at p1
  have H1 := Lib.hid p1
  have H2 := Lib.hid (fun v W h (hW : Below w.heap.size w W) => dfrom_any a d v W h (by omega) (by omega) hd0 (hT.mono hW))
  have H3 := Lib.hid (fun v W h => rfrom8_any a d v W h (by omega) (by omega) hd0)
  have s1 := fun v u W h1 h2 => same8_any m e m e v u W h1 h2
  rw [decide_eq_true (rfl : e = e), decide_eq_true (rfl : m = m), Bool.true_and] at s1
  have s2 := fun v u W h1 h2 => same8_any (frM a d) (frE a d) (frM a d) (frE a d) v u W h1 h2
  rw [decide_eq_true (rfl : frM a d = frM a d), decide_eq_true (rfl : frE a d = frE a d), Bool.true_and] at s2
  have S1 := Lib.hid s1
  have S2 := Lib.hid s2
  have S3 := Lib.hid (fun v u W h1 h2 => same7_yes (m * 2 ^ e.toNat) (2 ^ (-e).toNat) v u W h1 h2)
  have X1 := Lib.hid x1
  have X2 := Lib.hid x2
  clear e1 e2 e3 l1 l2 p1 s1 s2 x1 x2 HV hd0 lm he1 he2 la ld hT hP h0 h1 u0 t0
  generalize frM a d = M at *
  generalize frE a d = E at *
  generalize frB a d = fb at *
  generalize m * 2 ^ e.toNat = pn at *
  generalize 2 ^ (-e).toNat = pd at *
  have c00 := L.b0.c30
  have c01 := L.b0.c31
  have c02 := L.b0.c32
  have c10 := L.tl.b0.c30
  have c11 := L.tl.b0.c31
  have c12 := L.tl.b0.c32
  have c20 := L.tl.tl.b0.c30
  have c21 := L.tl.tl.b0.c31
  have c22 := L.tl.tl.b0.c32
  have c30 := L.tl.tl.tl.b0.c30
  have c31 := L.tl.tl.tl.b0.c31
  have c32 := L.tl.tl.tl.b0.c32
  go_wp2_with fail
  obtain ⟨gq, hg⟩ : ∃ g, w3.heap.size = g := ⟨_, rfl⟩
  rw [hg] at L c00 c01 c02 ⊢
  clear hg
  refine (X1.out _ _ (isD_n (s := .slice A (zl m) c) (L.getN (by simp)))).mono ?_
  rintro e w4 ⟨vp, rfl, iq, be⟩
  clear c00 c01 c02 c10 c11 c12 c20 c21 c22 c30 c31 c32
  replace L := (L.step be).q iq
  clear be iq
  have c00 := L.b0.c30
  have c01 := L.b0.c31
  have c02 := L.b0.c32
  have c10 := L.tl.b0.c30
  have c11 := L.tl.b0.c31
  have c12 := L.tl.b0.c32
  have c20 := L.tl.tl.b0.c30
  have c21 := L.tl.tl.b0.c31
  have c22 := L.tl.tl.b0.c32
  have c30 := L.tl.tl.tl.b0.c30
  have c31 := L.tl.tl.tl.b0.c31
  have c32 := L.tl.tl.tl.b0.c32
  go_wp2_with fail
  refine (H1.out _ _ L.hq L.below).mono ?_
  rintro e w5 ⟨vy, rfl, id, be⟩
  clear c00 c01 c02 c10 c11 c12 c20 c21 c22 c30 c31 c32
  obtain ⟨A2, c2, rfl, _, in9⟩ := id.form
  replace L := (L.step be).n in9
  clear be id in9
  replace L := L.varD w5.heap.size rfl (ng m) A2 (zl m) c2 e
  have c00 := L.b0.c30
  have c01 := L.b0.c31
  have c02 := L.b0.c32
  have c10 := L.tl.b0.c30
  have c11 := L.tl.b0.c31
  have c12 := L.tl.b0.c32
  have c20 := L.tl.tl.b0.c30
  have c21 := L.tl.tl.b0.c31
  have c22 := L.tl.tl.b0.c32
  have c30 := L.tl.tl.tl.b0.c30
  have c31 := L.tl.tl.tl.b0.c31
  have c32 := L.tl.tl.tl.b0.c32
  have c40 := L.tl.tl.tl.tl.b0.c30
  have c41 := L.tl.tl.tl.tl.b0.c31
  have c42 := L.tl.tl.tl.tl.b0.c32
  go_wp2_with fail
  obtain ⟨g2, hg⟩ : ∃ g, w5.heap.size = g := ⟨_, rfl⟩
  rw [hg] at L c00 c01 c02 ⊢
  clear hg
  refine (H2.out _ _ (L.getQ (v := .agg #[.bool (ng a), .slice A1 (zl a) c1, .slice B1 (len d) d1]) (by simp)) L.below).mono ?_
  rintro e w6 ⟨vy, rfl, id, be⟩
  clear c00 c01 c02 c10 c11 c12 c20 c21 c22 c30 c31 c32 c40 c41 c42
  obtain ⟨A3, c3, rfl, _, in9⟩ := id.form
  replace L := (L.step be).n in9
  clear be id in9
  replace L := L.varD w6.heap.size rfl (ng M) A3 (zl M) c3 E
  have c00 := L.b0.c30
  have c01 := L.b0.c31
  have c02 := L.b0.c32
  have c10 := L.tl.b0.c30
  have c11 := L.tl.b0.c31
  have c12 := L.tl.b0.c32
  have c20 := L.tl.tl.b0.c30
  have c21 := L.tl.tl.b0.c31
  have c22 := L.tl.tl.b0.c32
  have c30 := L.tl.tl.tl.b0.c30
  have c31 := L.tl.tl.tl.b0.c31
  have c32 := L.tl.tl.tl.b0.c32
  have c40 := L.tl.tl.tl.tl.b0.c30
  have c41 := L.tl.tl.tl.tl.b0.c31
  have c42 := L.tl.tl.tl.tl.b0.c32
  have c50 := L.tl.tl.tl.tl.tl.b0.c30
  have c51 := L.tl.tl.tl.tl.tl.b0.c31
  have c52 := L.tl.tl.tl.tl.tl.b0.c32
  go_wp2_with fail
  obtain ⟨g3, hg⟩ : ∃ g, w6.heap.size = g := ⟨_, rfl⟩
  rw [hg] at L c00 c01 c02 ⊢
  clear hg
  refine (H3.out _ _ (L.getQ (v := .agg #[.bool (ng a), .slice A1 (zl a) c1, .slice B1 (len d) d1]) (by simp))).mono ?_
  rintro e w7 ⟨vy, rfl, id, be⟩
  clear c00 c01 c02 c10 c11 c12 c20 c21 c22 c30 c31 c32 c40 c41 c42 c50 c51 c52
  obtain ⟨A4, c4, rfl, _, in9⟩ := id.form
  replace L := (L.step be).n in9
  clear be id in9
  replace L := L.varD w7.heap.size rfl (ng M) A4 (zl M) c4 E
  have c00 := L.b0.c30
  have c01 := L.b0.c31
  have c02 := L.b0.c32
  have c10 := L.tl.b0.c30
  have c11 := L.tl.b0.c31
  have c12 := L.tl.b0.c32
  have c20 := L.tl.tl.b0.c30
  have c21 := L.tl.tl.b0.c31
  have c22 := L.tl.tl.b0.c32
  have c30 := L.tl.tl.tl.b0.c30
  have c31 := L.tl.tl.tl.b0.c31
  have c32 := L.tl.tl.tl.b0.c32
  have c40 := L.tl.tl.tl.tl.b0.c30
  have c41 := L.tl.tl.tl.tl.b0.c31
  have c42 := L.tl.tl.tl.tl.b0.c32
  have c50 := L.tl.tl.tl.tl.tl.b0.c30
  have c51 := L.tl.tl.tl.tl.tl.b0.c31
  have c52 := L.tl.tl.tl.tl.tl.b0.c32
  have c60 := L.tl.tl.tl.tl.tl.tl.b0.c30
  have c61 := L.tl.tl.tl.tl.tl.tl.b0.c31
  have c62 := L.tl.tl.tl.tl.tl.tl.b0.c32
  go_wp2_with fail
  obtain ⟨g4, hg⟩ : ∃ g, w7.heap.size = g := ⟨_, rfl⟩
  rw [hg] at L c00 c01 c02 ⊢
  clear hg
  replace L := L.drew
  clear c00 c01 c02 c10 c11 c12 c20 c21 c22 c30 c31 c32 c40 c41 c42 c50 c51 c52 c60 c61 c62
  have c00 := L.b0.c30
  have c01 := L.b0.c31
  have c02 := L.b0.c32
  have c10 := L.tl.b0.c30
  have c11 := L.tl.b0.c31
  have c12 := L.tl.b0.c32
  have c20 := L.tl.tl.b0.c30
  have c21 := L.tl.tl.b0.c31
  have c22 := L.tl.tl.b0.c32
  have c30 := L.tl.tl.tl.b0.c30
  have c31 := L.tl.tl.tl.b0.c31
  have c32 := L.tl.tl.tl.b0.c32
  have c40 := L.tl.tl.tl.tl.b0.c30
  have c41 := L.tl.tl.tl.tl.b0.c31
  have c42 := L.tl.tl.tl.tl.b0.c32
  have c50 := L.tl.tl.tl.tl.tl.b0.c30
  have c51 := L.tl.tl.tl.tl.tl.b0.c31
  have c52 := L.tl.tl.tl.tl.tl.b0.c32
  have c60 := L.tl.tl.tl.tl.tl.tl.b0.c30
  have c61 := L.tl.tl.tl.tl.tl.tl.b0.c31
  have c62 := L.tl.tl.tl.tl.tl.tl.b0.c32
  go_region_held3 (fun w' => w'.cell? ⟨g, 0, none⟩ = some (.bool (ng m)) ∧ w'.cell? ⟨g, 1, none⟩ = some (.slice A (zl m) c) ∧ w'.cell? ⟨g, 2, none⟩ = some (.int .i64 e) ∧ w'.cell? ⟨g2, 0, none⟩ = some (.bool (ng m)) ∧ w'.cell? ⟨g2, 1, none⟩ = some (.slice A2 (zl m) c2) ∧ w'.cell? ⟨g2, 2, none⟩ = some (.int .i64 e) ∧ w'.cell? ⟨g3, 0, none⟩ = some (.bool (ng M)) ∧ w'.cell? ⟨g3, 1, none⟩ = some (.slice A3 (zl M) c3) ∧ w'.cell? ⟨g3, 2, none⟩ = some (.int .i64 E) ∧ w'.cell? ⟨g4, 0, none⟩ = some (.bool (ng M)) ∧ w'.cell? ⟨g4, 1, none⟩ = some (.slice A4 (zl M) c4) ∧ w'.cell? ⟨g4, 2, none⟩ = some (.int .i64 E)) (first | (with_reducible exact ⟨L.tl.tl.tl.tl.b0.c30, L.tl.tl.tl.tl.b0.c31, L.tl.tl.tl.tl.b0.c32, L.tl.tl.b0.c30, L.tl.tl.b0.c31, L.tl.tl.b0.c32, L.tl.b0.c30, L.tl.b0.c31, L.tl.b0.c32, L.b0.c30, L.b0.c31, L.b0.c32⟩) | exact ⟨L.tl.tl.tl.tl.b0.c30, L.tl.tl.tl.tl.b0.c31, L.tl.tl.tl.tl.b0.c32, L.tl.tl.b0.c30, L.tl.tl.b0.c31, L.tl.tl.b0.c32, L.tl.b0.c30, L.tl.b0.c31, L.tl.b0.c32, L.b0.c30, L.b0.c31, L.b0.c32⟩) (first | (go_at_call 16; (with_reducible refine (S1.out _ _ _ ?_ ?_ ).mono ?_); (· (refine isD_n (L.getN ?_); (repeat (first | (with_reducible exact List.mem_cons_self) | apply List.mem_cons_of_mem)))); (· (refine isD_n (L.getN ?_); (repeat (first | (with_reducible exact List.mem_cons_self) | apply List.mem_cons_of_mem)))); rintro e wh ⟨rfl, be⟩; replace L := L.step be; clear be) | (go_at_call 27; (with_reducible refine (X1.out _ _ ?_ ).mono ?_); (· (refine isD_n (L.getN ?_); (repeat (first | (with_reducible exact List.mem_cons_self) | apply List.mem_cons_of_mem)))); rintro e wh ⟨vh, rfl, iq, be⟩; replace L := (L.step be).q iq; clear be iq) | (go_at_call 25; (with_reducible refine (X2.out _ _ ?_ ).mono ?_); (· (refine isD_n (L.getN ?_); (repeat (first | (with_reducible exact List.mem_cons_self) | apply List.mem_cons_of_mem)))); rintro e wh ⟨vh, rfl, iq, be⟩; replace L := (L.step be).q iq; clear be iq) | (go_at_call 26; (with_reducible refine (S3.out _ _ _ ?_ ?_ ).mono ?_); (· (refine L.getQ ?_; (repeat (first | (with_reducible exact List.mem_cons_self) | apply List.mem_cons_of_mem)))); (· (refine L.getQ ?_; (repeat (first | (with_reducible exact List.mem_cons_self) | apply List.mem_cons_of_mem)))); rintro e wh ⟨rfl, be⟩; replace L := L.step be; clear be) | (go_at_call 16; (with_reducible refine (S2.out _ _ _ ?_ ?_ ).mono ?_); (· (refine isD_n (L.getN ?_); (repeat (first | (with_reducible exact List.mem_cons_self) | apply List.mem_cons_of_mem)))); (· (refine isD_n (L.getN ?_); (repeat (first | (with_reducible exact List.mem_cons_self) | apply List.mem_cons_of_mem)))); rintro e wh ⟨rfl, be⟩; replace L := L.step be; clear be))
  clear c00 c01 c02 c10 c11 c12 c20 c21 c22 c30 c31 c32 c40 c41 c42 c50 c51 c52 c60 c61 c62
  go_wp2_with fail
  go_ret
  exact ⟨rfl, L.below⟩

end Go.Proofs.YtpgiolbnmlbjbaaGreatDoor
