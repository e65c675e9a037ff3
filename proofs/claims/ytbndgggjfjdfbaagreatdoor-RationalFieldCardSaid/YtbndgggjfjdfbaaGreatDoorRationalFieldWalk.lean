/- The walk of RationalField: whatever the input, the law returns true and turns nothing that was there. -/
import Derived.Test.YtbndgggjfjdfbaaGreatDoorAwake7
import Derived.Test.YtbndgggjfjdfbaaGreatDoorMillTwo
import Derived.Test.YtbndgggjfjdfbaaGreatDoorRatP2
import Derived.Test.YtbndgggjfjdfbaaGreatDoorRefRatD
import Derived.Deep.RegionHeld3
import Derived.Deep.DrawnRows
namespace Go.Proofs.YtbndgggjfjdfbaaGreatDoor
open Go.RowKit
set_option linter.unusedVariables false
set_option linter.unusedSimpArgs false
set_option maxRecDepth 100000
attribute [local go_sem ↓] Go.wp_at_zero Go.wp_at_succ

set_option maxHeartbeats 8000000 in
theorem walk_RationalField (b0 : Bool) (a0 : Option Addr) (len0 cap0 : Nat) (z0 : List Nat) (x0 : Option Addr) (nen0 nap0 : Nat) (y0 : List Nat) (b1 : Bool) (a1 : Option Addr) (len1 cap1 : Nat) (z1 : List Nat) (x1 : Option Addr) (nen1 nap1 : Nat) (y1 : List Nat) (a2 : Int) (w : World) (h0 : Sl w a0 len0 cap0 z0 ∧ Sl w x0 nen0 nap0 y0) (h1 : Sl w a1 len1 cap1 z1 ∧ Sl w x1 nen1 nap1 y1) (h2 : -9223372036854775808 ≤ a2 ∧ a2 ≤ 9223372036854775807) (hT : Tab w) :
    Calls Tryz.prog 4 #[.agg #[.bool b0, .slice a0 len0 cap0, .slice x0 nen0 nap0], .agg #[.bool b1, .slice a1 len1 cap1, .slice x1 nen1 nap1], .int .i64 a2] w (fun e w' => e = .returned (.bool true) ∧ Below w.heap.size w w') := by
  go_enter Tryz.func4, Tryz.ntmps4
  go_wp2_with fail
  have L := (((Lq.mk0 w).varQ (w.heap.size) (by simp) b0 a0 x0 len0 cap0 nen0 nap0).varQ (w.heap.size + 1) (by simp) b1 a1 x1 len1 cap1 nen1 nap1)
  refine (awake7_any _ (hT.mono L.below)).mono ?_
  rintro e w1 ⟨rfl, be⟩
  replace L := L.step be
  clear be
  have c00 := L.b0.c30
  have c01 := L.b0.c31
  have c02 := L.b0.c32
  have c10 := L.tl.b0.c30
  have c11 := L.tl.b0.c31
  have c12 := L.tl.b0.c32
  go_wp2_with fail
  refine (two7_any b0 b1 z0 y0 z1 y1 6 a0 x0 a1 x1 len0 cap0 nen0 nap0 len1 cap1 nen1 nap1 _ (h0.1.mono L.below) (h0.2.mono L.below) (h1.1.mono L.below) (h1.2.mono L.below) (by omega)).mono ?_
  rintro e w2 ⟨vx, vy, ok, a, d, b, e', rfl, ix, iy, la, ld, lb, le, hv, be⟩
  clear c00 c01 c02 c10 c11 c12
  replace L := ((L.step be).q iy).q ix
  obtain ⟨A, c, B, i, rfl, izx, _, inx⟩ := ix.form
  obtain ⟨C, j, D', k, rfl, izy, _, iny⟩ := iy.form
  clear be ix iy
  replace L := ((L.varQ w2.heap.size rfl (ng a) A B (zl a) c (len d) i).varQ (w2.heap.size + 1) (by simp) (ng b) C D' (zl b) j (len e') k)
  cases ok
  · go_wp2_with fail
    go_ret
    exact ⟨rfl, L.below⟩
  · have HV := Lib.hid (hv rfl)
    clear hv
    have hd0 : 0 < d := by obtain ⟨⟨q, _, e1⟩, _⟩ := HV.out; rw [e1]; exact den_pos' q
    have he0 : 0 < e' := by obtain ⟨_, r, _, e1⟩ := HV.out; rw [e1]; exact den_pos' r
    go_wp2_with fail
    obtain ⟨g, hg⟩ : ∃ g, w2.heap.size = g := ⟨_, rfl⟩
    rw [hg] at L ⊢
    clear hg
    have p1 := fun v u W k1 k2 => padd_any a d b e' v u W k1 k2 (by omega) (by omega) (by omega) (by omega) hd0 he0
    have p2 := fun v u W k1 k2 => radd7_any a d b e' v u W k1 k2 (by omega) (by omega) (by omega) (by omega) hd0 he0
    have p3 := fun v u W k1 k2 => psub_any a d b e' v u W k1 k2 (by omega) (by omega) (by omega) (by omega) hd0 he0
    have p4 := fun v u W k1 k2 => rsub7_any a d b e' v u W k1 k2 (by omega) (by omega) (by omega) (by omega) hd0 he0
    have p5 := fun v u W k1 k2 => pmul_any a d b e' v u W k1 k2 (by omega) (by omega) (by omega) (by omega) hd0 he0
    have p6 := fun v u W k1 k2 => rmul7_any a d b e' v u W k1 k2 (by omega) (by omega) (by omega) (by omega) hd0 he0
    have p9 := fun W => pof_any a2 W h2.1 h2.2
    have p10 := fun W => rofn7_any a2 W h2.1 h2.2
    unfold RetQ at p1 p2 p3 p4 p5 p6 p9 p10
    have P1 := Lib.hid p1
    have P2 := Lib.hid p2
    have P3 := Lib.hid p3
    have P4 := Lib.hid p4
    have P5 := Lib.hid p5
    have P6 := Lib.hid p6
    have P7 := Lib.hid (fun v W k1 => pneg_any a d v W k1 (by omega) (by omega))
    have P8 := Lib.hid (fun v W k1 => rneg7_any a d v W k1 (by omega))
    have P9 := Lib.hid p9
    have P10 := Lib.hid p10
    have HD0 := Lib.hid (fun (hb : b ≠ 0) v u W k1 k2 => pdiv_any a d b e' v u W k1 k2 (by omega) (by omega) (by omega) (by omega) hd0 hb)
    have HD1 := Lib.hid (fun (hb : b ≠ 0) v u W k1 k2 => rdiv7_any a d b e' v u W k1 k2 (by omega) (by omega) (by omega) (by omega) hd0 hb)
    have HD2 := Lib.hid (fun v u W (k1 : IsP W v a d) (k2 : IsP W u 0 e') => pdiv_zero a d e' v u W k1 k2 (by omega) (by omega) (by omega))
    have HD3 := Lib.hid (fun v u W (k1 : IsP W v a d) (k2 : IsP W u 0 e') => rdiv7_zero a d e' v u W k1 k2 (by omega) (by omega) (by omega) hd0)
    clear p1 p2 p3 p4 p5 p6 p9 p10 hd0 he0 HV la ld lb le hT h0 h1 h2 izx izy inx iny
    generalize (Rat.divInt (a * (e' : Int) + b * (d : Int)) ((d : Int) * (e' : Int))).num = n1 at *
    generalize (Rat.divInt (a * (e' : Int) + b * (d : Int)) ((d : Int) * (e' : Int))).den = m1 at *
    generalize (Rat.divInt (a * (e' : Int) + -b * (d : Int)) ((d : Int) * (e' : Int))).num = n2 at *
    generalize (Rat.divInt (a * (e' : Int) + -b * (d : Int)) ((d : Int) * (e' : Int))).den = m2 at *
    generalize (Rat.divInt (a * b) ((d : Int) * (e' : Int))).num = n3 at *
    generalize (Rat.divInt (a * b) ((d : Int) * (e' : Int))).den = m3 at *
    generalize (Rat.divInt (a * (e' : Int)) ((d : Int) * b)).num = n4 at *
    generalize (Rat.divInt (a * (e' : Int)) ((d : Int) * b)).den = m4 at *
    generalize -a = na at *
    generalize (a2 : Rat).num = n5 at *
    generalize (a2 : Rat).den = m5 at *
    by_cases hb : b = 0
    · subst hb
      replace HD0 := HD2
      replace HD1 := HD3
      clear HD2 HD3
      have c00 := L.b0.c30
      have c01 := L.b0.c31
      have c02 := L.b0.c32
      have c10 := L.tl.b0.c30
      have c11 := L.tl.b0.c31
      have c12 := L.tl.b0.c32
      have c20 := L.tl.tl.b0.c30
      have c21 := L.tl.tl.b0.c31
      have c22 := L.tl.tl.b0.c32
      have c30 := L.tl.tl.tl.b0.c30
      have c31 := L.tl.tl.tl.b0.c31
      have c32 := L.tl.tl.tl.b0.c32
      go_wp2_with fail
      refine (HD0.out _ _ _ (L.getQ (by simp)) (L.getQ (by simp))).mono ?_
      rintro e w3 ⟨v, rfl, iq, be⟩
      clear c00 c01 c02 c10 c11 c12 c20 c21 c22 c30 c31 c32
      replace L := (L.step be).q iq
      obtain ⟨A3, c3, B3, d3, rfl, _, _, _⟩ := iq.form
      clear be iq
      have hl3 := L.b0.lt
      replace L := L.varQ w3.heap.size rfl (ng 0) A3 B3 (zl 0) c3 (len 0) d3
      have c00 := L.b0.c30
      have c01 := L.b0.c31
      have c02 := L.b0.c32
      have c10 := L.tl.b0.c30
      have c11 := L.tl.b0.c31
      have c12 := L.tl.b0.c32
      have c20 := L.tl.tl.b0.c30
      have c21 := L.tl.tl.b0.c31
      have c22 := L.tl.tl.b0.c32
      have c30 := L.tl.tl.tl.b0.c30
      have c31 := L.tl.tl.tl.b0.c31
      have c32 := L.tl.tl.tl.b0.c32
      have c40 := L.tl.tl.tl.tl.b0.c30
      have c41 := L.tl.tl.tl.tl.b0.c31
      have c42 := L.tl.tl.tl.tl.b0.c32
      go_wp2_with fail
      clear c00 c01 c02 c10 c11 c12 c20 c21 c22 c30 c31 c32 c40 c41 c42
      obtain ⟨gq, hg⟩ : ∃ g, w3.heap.size = g := ⟨_, rfl⟩
      rw [hg] at L hl3 ⊢
      clear hg
      have c00 := L.b0.c30
      have c01 := L.b0.c31
      have c02 := L.b0.c32
      have c10 := L.tl.b0.c30
      have c11 := L.tl.b0.c31
      have c12 := L.tl.b0.c32
      have c20 := L.tl.tl.b0.c30
      have c21 := L.tl.tl.b0.c31
      have c22 := L.tl.tl.b0.c32
      have c30 := L.tl.tl.tl.b0.c30
      have c31 := L.tl.tl.tl.b0.c31
      have c32 := L.tl.tl.tl.b0.c32
      have c40 := L.tl.tl.tl.tl.b0.c30
      have c41 := L.tl.tl.tl.tl.b0.c31
      have c42 := L.tl.tl.tl.tl.b0.c32
      clear HD0
      go_wp2_with fail
      refine (HD1.out _ _ _ (L.getQ (by simp)) (L.getQ (by simp))).mono ?_
      rintro e w4 ⟨v, rfl, iq, be⟩
      clear c00 c01 c02 c10 c11 c12 c20 c21 c22 c30 c31 c32 c40 c41 c42
      replace L := (L.step be).q iq
      obtain ⟨A4, c4, B4, d4, rfl, _, _, _⟩ := iq.form
      clear be iq
      have hl4 := L.b0.lt
      replace L := L.varQ w4.heap.size rfl (ng 0) A4 B4 (zl 0) c4 (len 0) d4
      have c00 := L.b0.c30
      have c01 := L.b0.c31
      have c02 := L.b0.c32
      have c10 := L.tl.b0.c30
      have c11 := L.tl.b0.c31
      have c12 := L.tl.b0.c32
      have c20 := L.tl.tl.b0.c30
      have c21 := L.tl.tl.b0.c31
      have c22 := L.tl.tl.b0.c32
      have c30 := L.tl.tl.tl.b0.c30
      have c31 := L.tl.tl.tl.b0.c31
      have c32 := L.tl.tl.tl.b0.c32
      have c40 := L.tl.tl.tl.tl.b0.c30
      have c41 := L.tl.tl.tl.tl.b0.c31
      have c42 := L.tl.tl.tl.tl.b0.c32
      have c50 := L.tl.tl.tl.tl.tl.b0.c30
      have c51 := L.tl.tl.tl.tl.tl.b0.c31
      have c52 := L.tl.tl.tl.tl.tl.b0.c32
      go_wp2_with fail
      clear c00 c01 c02 c10 c11 c12 c20 c21 c22 c30 c31 c32 c40 c41 c42 c50 c51 c52
      obtain ⟨gw, hg⟩ : ∃ g, w4.heap.size = g := ⟨_, rfl⟩
      rw [hg] at L hl4 ⊢
      clear hg
      have c00 := L.b0.c30
      have c01 := L.b0.c31
      have c02 := L.b0.c32
      have c10 := L.tl.b0.c30
      have c11 := L.tl.b0.c31
      have c12 := L.tl.b0.c32
      have c20 := L.tl.tl.b0.c30
      have c21 := L.tl.tl.b0.c31
      have c22 := L.tl.tl.b0.c32
      have c30 := L.tl.tl.tl.b0.c30
      have c31 := L.tl.tl.tl.b0.c31
      have c32 := L.tl.tl.tl.b0.c32
      have c40 := L.tl.tl.tl.tl.b0.c30
      have c41 := L.tl.tl.tl.tl.b0.c31
      have c42 := L.tl.tl.tl.tl.b0.c32
      have c50 := L.tl.tl.tl.tl.tl.b0.c30
      have c51 := L.tl.tl.tl.tl.tl.b0.c31
      have c52 := L.tl.tl.tl.tl.tl.b0.c32
      clear HD1
      clear c00 c01 c02 c10 c11 c12 c20 c21 c22 c30 c31 c32 c40 c41 c42 c50 c51 c52
      replace L := L.drew
      have c00 := L.b0.c30
      have c01 := L.b0.c31
      have c02 := L.b0.c32
      have c10 := L.tl.b0.c30
      have c11 := L.tl.b0.c31
      have c12 := L.tl.b0.c32
      have c20 := L.tl.tl.b0.c30
      have c21 := L.tl.tl.b0.c31
      have c22 := L.tl.tl.b0.c32
      have c30 := L.tl.tl.tl.b0.c30
      have c31 := L.tl.tl.tl.b0.c31
      have c32 := L.tl.tl.tl.b0.c32
      have c40 := L.tl.tl.tl.tl.b0.c30
      have c41 := L.tl.tl.tl.tl.b0.c31
      have c42 := L.tl.tl.tl.tl.b0.c32
      have c50 := L.tl.tl.tl.tl.tl.b0.c30
      have c51 := L.tl.tl.tl.tl.tl.b0.c31
      have c52 := L.tl.tl.tl.tl.tl.b0.c32
      have S0 := Lib.hid (fun v u W k1 k2 => same7_yes n1 m1 v u W k1 k2)
      have S1 := Lib.hid (fun v u W k1 k2 => same7_yes n2 m2 v u W k1 k2)
      have S2 := Lib.hid (fun v u W k1 k2 => same7_yes n3 m3 v u W k1 k2)
      have S3 := Lib.hid (fun v u W k1 k2 => same7_yes na d v u W k1 k2)
      have S4 := Lib.hid (fun v u W k1 k2 => same7_yes 0 0 v u W k1 k2)
      have S5 := Lib.hid (fun v u W k1 k2 => same7_yes n5 m5 v u W k1 k2)
      go_region_held3 (fun w' => w'.cell? ⟨g, 0, none⟩ = some (.bool (ng a)) ∧ w'.cell? ⟨g, 1, none⟩ = some (.slice A (zl a) c) ∧ w'.cell? ⟨g, 2, none⟩ = some (.slice B (len d) i) ∧ w'.cell? ⟨g + 1, 0, none⟩ = some (.bool (ng 0)) ∧ w'.cell? ⟨g + 1, 1, none⟩ = some (.slice C (zl 0) j) ∧ w'.cell? ⟨g + 1, 2, none⟩ = some (.slice D' (len e') k) ∧ w'.cell? ⟨gq, 0, none⟩ = some (.bool (ng 0)) ∧ w'.cell? ⟨gq, 1, none⟩ = some (.slice A3 (zl 0) c3) ∧ w'.cell? ⟨gq, 2, none⟩ = some (.slice B3 (len 0) d3) ∧ w'.cell? ⟨gw, 0, none⟩ = some (.bool (ng 0)) ∧ w'.cell? ⟨gw, 1, none⟩ = some (.slice A4 (zl 0) c4) ∧ w'.cell? ⟨gw, 2, none⟩ = some (.slice B4 (len 0) d4)) (first | (with_reducible exact ⟨L.tl.tl.tl.b0.c30, L.tl.tl.tl.b0.c31, L.tl.tl.tl.b0.c32, L.tl.tl.b0.c30, L.tl.tl.b0.c31, L.tl.tl.b0.c32, L.tl.b0.c30, L.tl.b0.c31, L.tl.b0.c32, L.b0.c30, L.b0.c31, L.b0.c32⟩) | exact ⟨L.tl.tl.tl.b0.c30, L.tl.tl.tl.b0.c31, L.tl.tl.tl.b0.c32, L.tl.tl.b0.c30, L.tl.tl.b0.c31, L.tl.tl.b0.c32, L.tl.b0.c30, L.tl.b0.c31, L.tl.b0.c32, L.b0.c30, L.b0.c31, L.b0.c32⟩) (first | (go_at_call 19; (with_reducible refine (P1.out _ _ _ ?_ ?_ ).mono ?_); (· (refine L.getQ ?_; (repeat (first | (with_reducible exact List.mem_cons_self) | apply List.mem_cons_of_mem)))); (· (refine L.getQ ?_; (repeat (first | (with_reducible exact List.mem_cons_self) | apply List.mem_cons_of_mem)))); rintro e wh ⟨vh, rfl, iq, be⟩; replace L := (L.step be).q iq; clear be iq) | (go_at_call 20; (with_reducible refine (P2.out _ _ _ ?_ ?_ ).mono ?_); (· (refine L.getQ ?_; (repeat (first | (with_reducible exact List.mem_cons_self) | apply List.mem_cons_of_mem)))); (· (refine L.getQ ?_; (repeat (first | (with_reducible exact List.mem_cons_self) | apply List.mem_cons_of_mem)))); rintro e wh ⟨vh, rfl, iq, be⟩; replace L := (L.step be).q iq; clear be iq) | (go_at_call 21; (with_reducible refine (P3.out _ _ _ ?_ ?_ ).mono ?_); (· (refine L.getQ ?_; (repeat (first | (with_reducible exact List.mem_cons_self) | apply List.mem_cons_of_mem)))); (· (refine L.getQ ?_; (repeat (first | (with_reducible exact List.mem_cons_self) | apply List.mem_cons_of_mem)))); rintro e wh ⟨vh, rfl, iq, be⟩; replace L := (L.step be).q iq; clear be iq) | (go_at_call 22; (with_reducible refine (P4.out _ _ _ ?_ ?_ ).mono ?_); (· (refine L.getQ ?_; (repeat (first | (with_reducible exact List.mem_cons_self) | apply List.mem_cons_of_mem)))); (· (refine L.getQ ?_; (repeat (first | (with_reducible exact List.mem_cons_self) | apply List.mem_cons_of_mem)))); rintro e wh ⟨vh, rfl, iq, be⟩; replace L := (L.step be).q iq; clear be iq) | (go_at_call 23; (with_reducible refine (P5.out _ _ _ ?_ ?_ ).mono ?_); (· (refine L.getQ ?_; (repeat (first | (with_reducible exact List.mem_cons_self) | apply List.mem_cons_of_mem)))); (· (refine L.getQ ?_; (repeat (first | (with_reducible exact List.mem_cons_self) | apply List.mem_cons_of_mem)))); rintro e wh ⟨vh, rfl, iq, be⟩; replace L := (L.step be).q iq; clear be iq) | (go_at_call 24; (with_reducible refine (P6.out _ _ _ ?_ ?_ ).mono ?_); (· (refine L.getQ ?_; (repeat (first | (with_reducible exact List.mem_cons_self) | apply List.mem_cons_of_mem)))); (· (refine L.getQ ?_; (repeat (first | (with_reducible exact List.mem_cons_self) | apply List.mem_cons_of_mem)))); rintro e wh ⟨vh, rfl, iq, be⟩; replace L := (L.step be).q iq; clear be iq) | (go_at_call 25; (with_reducible refine (P7.out _ _ ?_ ).mono ?_); (· (refine L.getQ ?_; (repeat (first | (with_reducible exact List.mem_cons_self) | apply List.mem_cons_of_mem)))); rintro e wh ⟨vh, rfl, iq, be⟩; replace L := (L.step be).q iq; clear be iq) | (go_at_call 26; (with_reducible refine (P8.out _ _ ?_ ).mono ?_); (· (refine L.getQ ?_; (repeat (first | (with_reducible exact List.mem_cons_self) | apply List.mem_cons_of_mem)))); rintro e wh ⟨vh, rfl, iq, be⟩; replace L := (L.step be).q iq; clear be iq) | (go_at_call 27; (with_reducible refine (P9.out _ ).mono ?_); rintro e wh ⟨vh, rfl, iq, be⟩; replace L := (L.step be).q iq; clear be iq) | (go_at_call 28; (with_reducible refine (P10.out _ ).mono ?_); rintro e wh ⟨vh, rfl, iq, be⟩; replace L := (L.step be).q iq; clear be iq) | (go_at_call 15; (with_reducible refine (S0.out _ _ _ ?_ ?_ ).mono ?_); (· (refine L.getQ ?_; (repeat (first | (with_reducible exact List.mem_cons_self) | apply List.mem_cons_of_mem)))); (· (refine L.getQ ?_; (repeat (first | (with_reducible exact List.mem_cons_self) | apply List.mem_cons_of_mem)))); rintro e wh ⟨rfl, be⟩; replace L := L.step be; clear be) | (go_at_call 15; (with_reducible refine (S1.out _ _ _ ?_ ?_ ).mono ?_); (· (refine L.getQ ?_; (repeat (first | (with_reducible exact List.mem_cons_self) | apply List.mem_cons_of_mem)))); (· (refine L.getQ ?_; (repeat (first | (with_reducible exact List.mem_cons_self) | apply List.mem_cons_of_mem)))); rintro e wh ⟨rfl, be⟩; replace L := L.step be; clear be) | (go_at_call 15; (with_reducible refine (S2.out _ _ _ ?_ ?_ ).mono ?_); (· (refine L.getQ ?_; (repeat (first | (with_reducible exact List.mem_cons_self) | apply List.mem_cons_of_mem)))); (· (refine L.getQ ?_; (repeat (first | (with_reducible exact List.mem_cons_self) | apply List.mem_cons_of_mem)))); rintro e wh ⟨rfl, be⟩; replace L := L.step be; clear be) | (go_at_call 15; (with_reducible refine (S3.out _ _ _ ?_ ?_ ).mono ?_); (· (refine L.getQ ?_; (repeat (first | (with_reducible exact List.mem_cons_self) | apply List.mem_cons_of_mem)))); (· (refine L.getQ ?_; (repeat (first | (with_reducible exact List.mem_cons_self) | apply List.mem_cons_of_mem)))); rintro e wh ⟨rfl, be⟩; replace L := L.step be; clear be) | (go_at_call 15; (with_reducible refine (S4.out _ _ _ ?_ ?_ ).mono ?_); (· (refine L.getQ ?_; (repeat (first | (with_reducible exact List.mem_cons_self) | apply List.mem_cons_of_mem)))); (· (refine L.getQ ?_; (repeat (first | (with_reducible exact List.mem_cons_self) | apply List.mem_cons_of_mem)))); rintro e wh ⟨rfl, be⟩; replace L := L.step be; clear be) | (go_at_call 15; (with_reducible refine (S5.out _ _ _ ?_ ?_ ).mono ?_); (· (refine L.getQ ?_; (repeat (first | (with_reducible exact List.mem_cons_self) | apply List.mem_cons_of_mem)))); (· (refine L.getQ ?_; (repeat (first | (with_reducible exact List.mem_cons_self) | apply List.mem_cons_of_mem)))); rintro e wh ⟨rfl, be⟩; replace L := L.step be; clear be))
      clear c00 c01 c02 c10 c11 c12 c20 c21 c22 c30 c31 c32 c40 c41 c42 c50 c51 c52
      go_wp2_with fail
      go_ret
      exact ⟨rfl, L.below⟩
    · replace HD0 := Lib.hid (HD0.out hb)
      replace HD1 := Lib.hid (HD1.out hb)
      clear HD2 HD3 hb
      have c00 := L.b0.c30
      have c01 := L.b0.c31
      have c02 := L.b0.c32
      have c10 := L.tl.b0.c30
      have c11 := L.tl.b0.c31
      have c12 := L.tl.b0.c32
      have c20 := L.tl.tl.b0.c30
      have c21 := L.tl.tl.b0.c31
      have c22 := L.tl.tl.b0.c32
      have c30 := L.tl.tl.tl.b0.c30
      have c31 := L.tl.tl.tl.b0.c31
      have c32 := L.tl.tl.tl.b0.c32
      go_wp2_with fail
      refine (HD0.out _ _ _ (L.getQ (by simp)) (L.getQ (by simp))).mono ?_
      rintro e w3 ⟨v, rfl, iq, be⟩
      clear c00 c01 c02 c10 c11 c12 c20 c21 c22 c30 c31 c32
      replace L := (L.step be).q iq
      obtain ⟨A3, c3, B3, d3, rfl, _, _, _⟩ := iq.form
      clear be iq
      have hl3 := L.b0.lt
      replace L := L.varQ w3.heap.size rfl (ng n4) A3 B3 (zl n4) c3 (len m4) d3
      have c00 := L.b0.c30
      have c01 := L.b0.c31
      have c02 := L.b0.c32
      have c10 := L.tl.b0.c30
      have c11 := L.tl.b0.c31
      have c12 := L.tl.b0.c32
      have c20 := L.tl.tl.b0.c30
      have c21 := L.tl.tl.b0.c31
      have c22 := L.tl.tl.b0.c32
      have c30 := L.tl.tl.tl.b0.c30
      have c31 := L.tl.tl.tl.b0.c31
      have c32 := L.tl.tl.tl.b0.c32
      have c40 := L.tl.tl.tl.tl.b0.c30
      have c41 := L.tl.tl.tl.tl.b0.c31
      have c42 := L.tl.tl.tl.tl.b0.c32
      go_wp2_with fail
      clear c00 c01 c02 c10 c11 c12 c20 c21 c22 c30 c31 c32 c40 c41 c42
      obtain ⟨gq, hg⟩ : ∃ g, w3.heap.size = g := ⟨_, rfl⟩
      rw [hg] at L hl3 ⊢
      clear hg
      have c00 := L.b0.c30
      have c01 := L.b0.c31
      have c02 := L.b0.c32
      have c10 := L.tl.b0.c30
      have c11 := L.tl.b0.c31
      have c12 := L.tl.b0.c32
      have c20 := L.tl.tl.b0.c30
      have c21 := L.tl.tl.b0.c31
      have c22 := L.tl.tl.b0.c32
      have c30 := L.tl.tl.tl.b0.c30
      have c31 := L.tl.tl.tl.b0.c31
      have c32 := L.tl.tl.tl.b0.c32
      have c40 := L.tl.tl.tl.tl.b0.c30
      have c41 := L.tl.tl.tl.tl.b0.c31
      have c42 := L.tl.tl.tl.tl.b0.c32
      clear HD0
      go_wp2_with fail
      refine (HD1.out _ _ _ (L.getQ (by simp)) (L.getQ (by simp))).mono ?_
      rintro e w4 ⟨v, rfl, iq, be⟩
      clear c00 c01 c02 c10 c11 c12 c20 c21 c22 c30 c31 c32 c40 c41 c42
      replace L := (L.step be).q iq
      obtain ⟨A4, c4, B4, d4, rfl, _, _, _⟩ := iq.form
      clear be iq
      have hl4 := L.b0.lt
      replace L := L.varQ w4.heap.size rfl (ng n4) A4 B4 (zl n4) c4 (len m4) d4
      have c00 := L.b0.c30
      have c01 := L.b0.c31
      have c02 := L.b0.c32
      have c10 := L.tl.b0.c30
      have c11 := L.tl.b0.c31
      have c12 := L.tl.b0.c32
      have c20 := L.tl.tl.b0.c30
      have c21 := L.tl.tl.b0.c31
      have c22 := L.tl.tl.b0.c32
      have c30 := L.tl.tl.tl.b0.c30
      have c31 := L.tl.tl.tl.b0.c31
      have c32 := L.tl.tl.tl.b0.c32
      have c40 := L.tl.tl.tl.tl.b0.c30
      have c41 := L.tl.tl.tl.tl.b0.c31
      have c42 := L.tl.tl.tl.tl.b0.c32
      have c50 := L.tl.tl.tl.tl.tl.b0.c30
      have c51 := L.tl.tl.tl.tl.tl.b0.c31
      have c52 := L.tl.tl.tl.tl.tl.b0.c32
      go_wp2_with fail
      clear c00 c01 c02 c10 c11 c12 c20 c21 c22 c30 c31 c32 c40 c41 c42 c50 c51 c52
      obtain ⟨gw, hg⟩ : ∃ g, w4.heap.size = g := ⟨_, rfl⟩
      rw [hg] at L hl4 ⊢
      clear hg
      have c00 := L.b0.c30
      have c01 := L.b0.c31
      have c02 := L.b0.c32
      have c10 := L.tl.b0.c30
      have c11 := L.tl.b0.c31
      have c12 := L.tl.b0.c32
      have c20 := L.tl.tl.b0.c30
      have c21 := L.tl.tl.b0.c31
      have c22 := L.tl.tl.b0.c32
      have c30 := L.tl.tl.tl.b0.c30
      have c31 := L.tl.tl.tl.b0.c31
      have c32 := L.tl.tl.tl.b0.c32
      have c40 := L.tl.tl.tl.tl.b0.c30
      have c41 := L.tl.tl.tl.tl.b0.c31
      have c42 := L.tl.tl.tl.tl.b0.c32
      have c50 := L.tl.tl.tl.tl.tl.b0.c30
      have c51 := L.tl.tl.tl.tl.tl.b0.c31
      have c52 := L.tl.tl.tl.tl.tl.b0.c32
      clear HD1
      clear c00 c01 c02 c10 c11 c12 c20 c21 c22 c30 c31 c32 c40 c41 c42 c50 c51 c52
      replace L := L.drew
      have c00 := L.b0.c30
      have c01 := L.b0.c31
      have c02 := L.b0.c32
      have c10 := L.tl.b0.c30
      have c11 := L.tl.b0.c31
      have c12 := L.tl.b0.c32
      have c20 := L.tl.tl.b0.c30
      have c21 := L.tl.tl.b0.c31
      have c22 := L.tl.tl.b0.c32
      have c30 := L.tl.tl.tl.b0.c30
      have c31 := L.tl.tl.tl.b0.c31
      have c32 := L.tl.tl.tl.b0.c32
      have c40 := L.tl.tl.tl.tl.b0.c30
      have c41 := L.tl.tl.tl.tl.b0.c31
      have c42 := L.tl.tl.tl.tl.b0.c32
      have c50 := L.tl.tl.tl.tl.tl.b0.c30
      have c51 := L.tl.tl.tl.tl.tl.b0.c31
      have c52 := L.tl.tl.tl.tl.tl.b0.c32
      have S0 := Lib.hid (fun v u W k1 k2 => same7_yes n1 m1 v u W k1 k2)
      have S1 := Lib.hid (fun v u W k1 k2 => same7_yes n2 m2 v u W k1 k2)
      have S2 := Lib.hid (fun v u W k1 k2 => same7_yes n3 m3 v u W k1 k2)
      have S3 := Lib.hid (fun v u W k1 k2 => same7_yes na d v u W k1 k2)
      have S4 := Lib.hid (fun v u W k1 k2 => same7_yes n4 m4 v u W k1 k2)
      have S5 := Lib.hid (fun v u W k1 k2 => same7_yes n5 m5 v u W k1 k2)
      go_region_held3 (fun w' => w'.cell? ⟨g, 0, none⟩ = some (.bool (ng a)) ∧ w'.cell? ⟨g, 1, none⟩ = some (.slice A (zl a) c) ∧ w'.cell? ⟨g, 2, none⟩ = some (.slice B (len d) i) ∧ w'.cell? ⟨g + 1, 0, none⟩ = some (.bool (ng b)) ∧ w'.cell? ⟨g + 1, 1, none⟩ = some (.slice C (zl b) j) ∧ w'.cell? ⟨g + 1, 2, none⟩ = some (.slice D' (len e') k) ∧ w'.cell? ⟨gq, 0, none⟩ = some (.bool (ng n4)) ∧ w'.cell? ⟨gq, 1, none⟩ = some (.slice A3 (zl n4) c3) ∧ w'.cell? ⟨gq, 2, none⟩ = some (.slice B3 (len m4) d3) ∧ w'.cell? ⟨gw, 0, none⟩ = some (.bool (ng n4)) ∧ w'.cell? ⟨gw, 1, none⟩ = some (.slice A4 (zl n4) c4) ∧ w'.cell? ⟨gw, 2, none⟩ = some (.slice B4 (len m4) d4)) (first | (with_reducible exact ⟨L.tl.tl.tl.b0.c30, L.tl.tl.tl.b0.c31, L.tl.tl.tl.b0.c32, L.tl.tl.b0.c30, L.tl.tl.b0.c31, L.tl.tl.b0.c32, L.tl.b0.c30, L.tl.b0.c31, L.tl.b0.c32, L.b0.c30, L.b0.c31, L.b0.c32⟩) | exact ⟨L.tl.tl.tl.b0.c30, L.tl.tl.tl.b0.c31, L.tl.tl.tl.b0.c32, L.tl.tl.b0.c30, L.tl.tl.b0.c31, L.tl.tl.b0.c32, L.tl.b0.c30, L.tl.b0.c31, L.tl.b0.c32, L.b0.c30, L.b0.c31, L.b0.c32⟩) (first | (go_at_call 19; (with_reducible refine (P1.out _ _ _ ?_ ?_ ).mono ?_); (· (refine L.getQ ?_; (repeat (first | (with_reducible exact List.mem_cons_self) | apply List.mem_cons_of_mem)))); (· (refine L.getQ ?_; (repeat (first | (with_reducible exact List.mem_cons_self) | apply List.mem_cons_of_mem)))); rintro e wh ⟨vh, rfl, iq, be⟩; replace L := (L.step be).q iq; clear be iq) | (go_at_call 20; (with_reducible refine (P2.out _ _ _ ?_ ?_ ).mono ?_); (· (refine L.getQ ?_; (repeat (first | (with_reducible exact List.mem_cons_self) | apply List.mem_cons_of_mem)))); (· (refine L.getQ ?_; (repeat (first | (with_reducible exact List.mem_cons_self) | apply List.mem_cons_of_mem)))); rintro e wh ⟨vh, rfl, iq, be⟩; replace L := (L.step be).q iq; clear be iq) | (go_at_call 21; (with_reducible refine (P3.out _ _ _ ?_ ?_ ).mono ?_); (· (refine L.getQ ?_; (repeat (first | (with_reducible exact List.mem_cons_self) | apply List.mem_cons_of_mem)))); (· (refine L.getQ ?_; (repeat (first | (with_reducible exact List.mem_cons_self) | apply List.mem_cons_of_mem)))); rintro e wh ⟨vh, rfl, iq, be⟩; replace L := (L.step be).q iq; clear be iq) | (go_at_call 22; (with_reducible refine (P4.out _ _ _ ?_ ?_ ).mono ?_); (· (refine L.getQ ?_; (repeat (first | (with_reducible exact List.mem_cons_self) | apply List.mem_cons_of_mem)))); (· (refine L.getQ ?_; (repeat (first | (with_reducible exact List.mem_cons_self) | apply List.mem_cons_of_mem)))); rintro e wh ⟨vh, rfl, iq, be⟩; replace L := (L.step be).q iq; clear be iq) | (go_at_call 23; (with_reducible refine (P5.out _ _ _ ?_ ?_ ).mono ?_); (· (refine L.getQ ?_; (repeat (first | (with_reducible exact List.mem_cons_self) | apply List.mem_cons_of_mem)))); (· (refine L.getQ ?_; (repeat (first | (with_reducible exact List.mem_cons_self) | apply List.mem_cons_of_mem)))); rintro e wh ⟨vh, rfl, iq, be⟩; replace L := (L.step be).q iq; clear be iq) | (go_at_call 24; (with_reducible refine (P6.out _ _ _ ?_ ?_ ).mono ?_); (· (refine L.getQ ?_; (repeat (first | (with_reducible exact List.mem_cons_self) | apply List.mem_cons_of_mem)))); (· (refine L.getQ ?_; (repeat (first | (with_reducible exact List.mem_cons_self) | apply List.mem_cons_of_mem)))); rintro e wh ⟨vh, rfl, iq, be⟩; replace L := (L.step be).q iq; clear be iq) | (go_at_call 25; (with_reducible refine (P7.out _ _ ?_ ).mono ?_); (· (refine L.getQ ?_; (repeat (first | (with_reducible exact List.mem_cons_self) | apply List.mem_cons_of_mem)))); rintro e wh ⟨vh, rfl, iq, be⟩; replace L := (L.step be).q iq; clear be iq) | (go_at_call 26; (with_reducible refine (P8.out _ _ ?_ ).mono ?_); (· (refine L.getQ ?_; (repeat (first | (with_reducible exact List.mem_cons_self) | apply List.mem_cons_of_mem)))); rintro e wh ⟨vh, rfl, iq, be⟩; replace L := (L.step be).q iq; clear be iq) | (go_at_call 27; (with_reducible refine (P9.out _ ).mono ?_); rintro e wh ⟨vh, rfl, iq, be⟩; replace L := (L.step be).q iq; clear be iq) | (go_at_call 28; (with_reducible refine (P10.out _ ).mono ?_); rintro e wh ⟨vh, rfl, iq, be⟩; replace L := (L.step be).q iq; clear be iq) | (go_at_call 15; (with_reducible refine (S0.out _ _ _ ?_ ?_ ).mono ?_); (· (refine L.getQ ?_; (repeat (first | (with_reducible exact List.mem_cons_self) | apply List.mem_cons_of_mem)))); (· (refine L.getQ ?_; (repeat (first | (with_reducible exact List.mem_cons_self) | apply List.mem_cons_of_mem)))); rintro e wh ⟨rfl, be⟩; replace L := L.step be; clear be) | (go_at_call 15; (with_reducible refine (S1.out _ _ _ ?_ ?_ ).mono ?_); (· (refine L.getQ ?_; (repeat (first | (with_reducible exact List.mem_cons_self) | apply List.mem_cons_of_mem)))); (· (refine L.getQ ?_; (repeat (first | (with_reducible exact List.mem_cons_self) | apply List.mem_cons_of_mem)))); rintro e wh ⟨rfl, be⟩; replace L := L.step be; clear be) | (go_at_call 15; (with_reducible refine (S2.out _ _ _ ?_ ?_ ).mono ?_); (· (refine L.getQ ?_; (repeat (first | (with_reducible exact List.mem_cons_self) | apply List.mem_cons_of_mem)))); (· (refine L.getQ ?_; (repeat (first | (with_reducible exact List.mem_cons_self) | apply List.mem_cons_of_mem)))); rintro e wh ⟨rfl, be⟩; replace L := L.step be; clear be) | (go_at_call 15; (with_reducible refine (S3.out _ _ _ ?_ ?_ ).mono ?_); (· (refine L.getQ ?_; (repeat (first | (with_reducible exact List.mem_cons_self) | apply List.mem_cons_of_mem)))); (· (refine L.getQ ?_; (repeat (first | (with_reducible exact List.mem_cons_self) | apply List.mem_cons_of_mem)))); rintro e wh ⟨rfl, be⟩; replace L := L.step be; clear be) | (go_at_call 15; (with_reducible refine (S4.out _ _ _ ?_ ?_ ).mono ?_); (· (refine L.getQ ?_; (repeat (first | (with_reducible exact List.mem_cons_self) | apply List.mem_cons_of_mem)))); (· (refine L.getQ ?_; (repeat (first | (with_reducible exact List.mem_cons_self) | apply List.mem_cons_of_mem)))); rintro e wh ⟨rfl, be⟩; replace L := L.step be; clear be) | (go_at_call 15; (with_reducible refine (S5.out _ _ _ ?_ ?_ ).mono ?_); (· (refine L.getQ ?_; (repeat (first | (with_reducible exact List.mem_cons_self) | apply List.mem_cons_of_mem)))); (· (refine L.getQ ?_; (repeat (first | (with_reducible exact List.mem_cons_self) | apply List.mem_cons_of_mem)))); rintro e wh ⟨rfl, be⟩; replace L := L.step be; clear be))
      clear c00 c01 c02 c10 c11 c12 c20 c21 c22 c30 c31 c32 c40 c41 c42 c50 c51 c52
      go_wp2_with fail
      go_ret
      exact ⟨rfl, L.below⟩

end Go.Proofs.YtbndgggjfjdfbaaGreatDoor
