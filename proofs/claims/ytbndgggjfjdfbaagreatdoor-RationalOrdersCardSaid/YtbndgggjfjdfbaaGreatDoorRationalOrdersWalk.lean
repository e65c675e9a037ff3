/- The walk of RationalOrders: whatever the input, the law returns true and turns nothing that was there. -/
import Derived.Test.YtbndgggjfjdfbaaGreatDoorAwake7
import Derived.Test.YtbndgggjfjdfbaaGreatDoorMillTwo
import Derived.Test.YtbndgggjfjdfbaaGreatDoorRatP2
import Derived.Test.YtbndgggjfjdfbaaGreatDoorRefRatD
import Derived.Deep.RegionHeld3
import Derived.Deep.DrawnRows
namespace Go.Proofs.YtbndgggjfjdfbaaGreatDoor
open Go.RowKit
set_option linter.unusedVariables false
set_option linter.unusedSimpArgs false
set_option maxRecDepth 100000
attribute [local go_sem ↓] Go.wp_at_zero Go.wp_at_succ

theorem cmp_divInt {n : Int} {m : Nat} (h : 0 < m) : cmpI (Rat.divInt n (m : Int)).num 0 = cmpI n 0 := by
  rw [(divInt_nat n m h).1]
  have hg : Nat.gcd n.natAbs m ∣ n.natAbs := Nat.gcd_dvd_left _ _
  have hg0 : 0 < Nat.gcd n.natAbs m := Nat.gcd_pos_of_pos_right _ h
  rcases Int.lt_trichotomy n 0 with h1 | h1 | h1
  · have hp : 0 < n.natAbs / Nat.gcd n.natAbs m := Nat.div_pos (Nat.le_of_dvd (by omega) hg) hg0
    rw [ng_yes h1, cmpI_lt h1]
    refine cmpI_lt ?_
    show -((n.natAbs / Nat.gcd n.natAbs m : Nat) : Int) < 0
    omega
  · subst h1
    rw [show (0 : Int).natAbs = 0 from rfl, Nat.zero_div]
    rfl
  · have hp : 0 < n.natAbs / Nat.gcd n.natAbs m := Nat.div_pos (Nat.le_of_dvd (by omega) hg) hg0
    rw [ng_no (by omega), cmpI_gt h1]
    refine cmpI_gt ?_
    show (0 : Int) < ((n.natAbs / Nat.gcd n.natAbs m : Nat) : Int)
    omega
theorem cmp_diff7 (x y : Int) : cmpI (x + -y) 0 = cmpI x y := by unfold cmpI; (repeat' split) <;> omega
theorem cmpI_swap (x y : Int) : cmpI y x = -cmpI x y := by unfold cmpI; (repeat' split) <;> omega
theorem cmpI_range3 (x y : Int) : -1 ≤ cmpI x y ∧ cmpI x y ≤ 1 := by unfold cmpI; (repeat' split) <;> omega
theorem small_divInt (n : Int) (m : Nat) (k : Nat) (hn : zl n ≤ k) (hm : len m ≤ k) (h0 : 0 < m) : zl (Rat.divInt n (m : Int)).num ≤ k ∧ len (Rat.divInt n (m : Int)).den ≤ k := divInt_small n m k hn hm h0

set_option maxHeartbeats 4000000 in
theorem walk_RationalOrders (b0 : Bool) (a0 : Option Addr) (len0 cap0 : Nat) (z0 : List Nat) (x0 : Option Addr) (nen0 nap0 : Nat) (y0 : List Nat) (b1 : Bool) (a1 : Option Addr) (len1 cap1 : Nat) (z1 : List Nat) (x1 : Option Addr) (nen1 nap1 : Nat) (y1 : List Nat) (w : World) (h0 : Sl w a0 len0 cap0 z0 ∧ Sl w x0 nen0 nap0 y0) (h1 : Sl w a1 len1 cap1 z1 ∧ Sl w x1 nen1 nap1 y1) (hT : Tab w) :
    Calls Tryz.prog 6 #[.agg #[.bool b0, .slice a0 len0 cap0, .slice x0 nen0 nap0], .agg #[.bool b1, .slice a1 len1 cap1, .slice x1 nen1 nap1]] w (fun e w' => e = .returned (.bool true) ∧ Below w.heap.size w w') := by
  go_enter Tryz.func6, Tryz.ntmps6
  go_wp2_with fail
  have L := (((Lq.mk0 w).varQ (w.heap.size) (by simp) b0 a0 x0 len0 cap0 nen0 nap0).varQ (w.heap.size + 1) (by simp) b1 a1 x1 len1 cap1 nen1 nap1)
  refine (awake7_any _ (hT.mono L.below)).mono ?_
  rintro e w1 ⟨rfl, be⟩
  replace L := L.step be
  clear be
  have c00 := L.b0.c30
  have c01 := L.b0.c31
  have c02 := L.b0.c32
  have c10 := L.tl.b0.c30
  have c11 := L.tl.b0.c31
  have c12 := L.tl.b0.c32
  go_wp2_with fail
  refine (two7_any b0 b1 z0 y0 z1 y1 8 a0 x0 a1 x1 len0 cap0 nen0 nap0 len1 cap1 nen1 nap1 _ (h0.1.mono L.below) (h0.2.mono L.below) (h1.1.mono L.below) (h1.2.mono L.below) (by omega)).mono ?_
  rintro e w2 ⟨vx, vy, ok, a, d, b, e', rfl, ix, iy, la, ld, lb, le, hv, be⟩
  clear c00 c01 c02 c10 c11 c12
  replace L := ((L.step be).q iy).q ix
  obtain ⟨A, c, B, i, rfl, izx, _, inx⟩ := ix.form
  obtain ⟨C, j, D', k, rfl, izy, _, iny⟩ := iy.form
  clear be ix iy
  replace L := ((L.varQ w2.heap.size rfl (ng a) A B (zl a) c (len d) i).varQ (w2.heap.size + 1) (by simp) (ng b) C D' (zl b) j (len e') k)
  cases ok
  · go_wp2_with fail
    go_ret
    exact ⟨rfl, L.below⟩
  · have HV := Lib.hid (hv rfl)
    clear hv
    have hd0 : 0 < d := by obtain ⟨⟨q, _, e1⟩, _⟩ := HV.out; rw [e1]; exact den_pos' q
    have he0 : 0 < e' := by obtain ⟨_, r, _, e1⟩ := HV.out; rw [e1]; exact den_pos' r
    go_wp2_with fail
    obtain ⟨g, hg⟩ : ∃ g, w2.heap.size = g := ⟨_, rfl⟩
    rw [hg] at L ⊢
    clear hg
    replace L := L.drew
    have l1 := zl_mul a (e' : Int)
    have l2 := zl_mul (-b) (d : Int)
    have l3 := len_mul d e'
    have l4 := zl_add (a * (e' : Int)) (-b * (d : Int))
    have ld' : zl (d : Int) ≤ 9 := ld
    have le' : zl (e' : Int) ≤ 9 := le
    have lnb := zl_neg b
    have hR := cmpI_range3 (a * (e' : Int)) (b * (d : Int))
    have hS := small_divInt (a * (e' : Int) + -b * (d : Int)) (d * e') 100 (by omega) (by omega) (Nat.mul_pos hd0 he0)
    have hC := cmp_divInt (n := a * (e' : Int) + -b * (d : Int)) (Nat.mul_pos hd0 he0)
    rw [Int.natCast_mul] at hS hC
    rw [Int.neg_mul, cmp_diff7, ← Int.neg_mul] at hC
    have H1 := Lib.hid (fun v u W h1 h2 => pcmp_any a d b e' v u W h1 h2 (by omega) (by omega) (by omega) (by omega))
    have H2 := Lib.hid (fun v u W h1 h2 => rcmp7_any a d b e' v u W h1 h2 (by omega) (by omega) (by omega) (by omega))
    have h3 := fun v u W h1 h2 => pcmp_any b e' a d v u W h1 h2 (by omega) (by omega) (by omega) (by omega)
    rw [cmpI_swap] at h3
    have H3 := Lib.hid h3
    have H4 := Lib.hid (fun v W h1 => psign_any a d v W h1 (by omega))
    have H5 := Lib.hid (fun v W h1 => rsign7_any a d v W h1 (by omega))
    have h6 := fun v u W h1 h2 => psub_any a d b e' v u W h1 h2 (by omega) (by omega) (by omega) (by omega) hd0 he0
    unfold RetQ at h6
    have h7 := fun v W h1 => psign_any (Rat.divInt (a * (e' : Int) + -b * (d : Int)) ((d : Int) * (e' : Int))).num (Rat.divInt (a * (e' : Int) + -b * (d : Int)) ((d : Int) * (e' : Int))).den v W h1 (Nat.le_trans hS.1 (by omega))
    rw [hC] at h7
    have H6 := Lib.hid h6
    have H7 := Lib.hid h7
    have H8 := Lib.hid (fun v W h1 => psize_any a d v W h1 (by omega) (by omega))
    have H9 := Lib.hid (fun v W h1 => rsize7_any a d v W h1 (by omega) (by omega))
    clear h3 h6 h7 hC hS l1 l2 l3 l4 ld' le' lnb hd0 he0 HV la ld lb le hT h0 h1 izx izy inx iny
    generalize (Rat.divInt (a * (e' : Int) + -b * (d : Int)) ((d : Int) * (e' : Int))).num = sn at *
    generalize (Rat.divInt (a * (e' : Int) + -b * (d : Int)) ((d : Int) * (e' : Int))).den = sd at *
    generalize cmpI (a * (e' : Int)) (b * (d : Int)) = K at *
    generalize cmpI a 0 = s at *
    generalize max (blen a.natAbs : Int) (blen d : Int) = mx at *
    have hw : IntKind.i64.wrap (-K) = -K := by rw [IntKind.wrap_i64]; omega
    clear hR
    have c00 := L.b0.c30
    have c01 := L.b0.c31
    have c02 := L.b0.c32
    have c10 := L.tl.b0.c30
    have c11 := L.tl.b0.c31
    have c12 := L.tl.b0.c32
    have c20 := L.tl.tl.b0.c30
    have c21 := L.tl.tl.b0.c31
    have c22 := L.tl.tl.b0.c32
    have c30 := L.tl.tl.tl.b0.c30
    have c31 := L.tl.tl.tl.b0.c31
    have c32 := L.tl.tl.tl.b0.c32
    go_region_held3 (fun w' => w'.cell? ⟨g, 0, none⟩ = some (.bool (ng a)) ∧ w'.cell? ⟨g, 1, none⟩ = some (.slice A (zl a) c) ∧ w'.cell? ⟨g, 2, none⟩ = some (.slice B (len d) i) ∧ w'.cell? ⟨g + 1, 0, none⟩ = some (.bool (ng b)) ∧ w'.cell? ⟨g + 1, 1, none⟩ = some (.slice C (zl b) j) ∧ w'.cell? ⟨g + 1, 2, none⟩ = some (.slice D' (len e') k)) (first | (with_reducible exact ⟨L.tl.b0.c30, L.tl.b0.c31, L.tl.b0.c32, L.b0.c30, L.b0.c31, L.b0.c32⟩) | exact ⟨L.tl.b0.c30, L.tl.b0.c31, L.tl.b0.c32, L.b0.c30, L.b0.c31, L.b0.c32⟩) (first | (go_at_call 31; (with_reducible refine (H1.out _ _ _ ?_ ?_ ).mono ?_); (· (refine L.getQ ?_; (repeat (first | (with_reducible exact List.mem_cons_self) | apply List.mem_cons_of_mem)))); (· (refine L.getQ ?_; (repeat (first | (with_reducible exact List.mem_cons_self) | apply List.mem_cons_of_mem)))); rintro e wh ⟨rfl, be⟩; replace L := L.step be; clear be) | (go_at_call 32; (with_reducible refine (H2.out _ _ _ ?_ ?_ ).mono ?_); (· (refine L.getQ ?_; (repeat (first | (with_reducible exact List.mem_cons_self) | apply List.mem_cons_of_mem)))); (· (refine L.getQ ?_; (repeat (first | (with_reducible exact List.mem_cons_self) | apply List.mem_cons_of_mem)))); rintro e wh ⟨rfl, be⟩; replace L := L.step be; clear be) | (go_at_call 31; (with_reducible refine (H3.out _ _ _ ?_ ?_ ).mono ?_); (· (refine L.getQ ?_; (repeat (first | (with_reducible exact List.mem_cons_self) | apply List.mem_cons_of_mem)))); (· (refine L.getQ ?_; (repeat (first | (with_reducible exact List.mem_cons_self) | apply List.mem_cons_of_mem)))); rintro e wh ⟨rfl, be⟩; replace L := L.step be; clear be) | (go_at_call 30; (with_reducible refine (H4.out _ _ ?_ ).mono ?_); (· (refine L.getQ ?_; (repeat (first | (with_reducible exact List.mem_cons_self) | apply List.mem_cons_of_mem)))); rintro e wh ⟨rfl, be⟩; replace L := L.step be; clear be) | (go_at_call 33; (with_reducible refine (H5.out _ _ ?_ ).mono ?_); (· (refine L.getQ ?_; (repeat (first | (with_reducible exact List.mem_cons_self) | apply List.mem_cons_of_mem)))); rintro e wh ⟨rfl, be⟩; replace L := L.step be; clear be) | (go_at_call 21; (with_reducible refine (H6.out _ _ _ ?_ ?_ ).mono ?_); (· (refine L.getQ ?_; (repeat (first | (with_reducible exact List.mem_cons_self) | apply List.mem_cons_of_mem)))); (· (refine L.getQ ?_; (repeat (first | (with_reducible exact List.mem_cons_self) | apply List.mem_cons_of_mem)))); rintro e wh ⟨vh, rfl, iq, be⟩; replace L := (L.step be).q iq; clear be iq) | (go_at_call 30; (with_reducible refine (H7.out _ _ ?_ ).mono ?_); (· (refine L.getQ ?_; (repeat (first | (with_reducible exact List.mem_cons_self) | apply List.mem_cons_of_mem)))); rintro e wh ⟨rfl, be⟩; replace L := L.step be; clear be) | (go_at_call 34; (with_reducible refine (H8.out _ _ ?_ ).mono ?_); (· (refine L.getQ ?_; (repeat (first | (with_reducible exact List.mem_cons_self) | apply List.mem_cons_of_mem)))); rintro e wh ⟨rfl, be⟩; replace L := L.step be; clear be) | (go_at_call 35; (with_reducible refine (H9.out _ _ ?_ ).mono ?_); (· (refine L.getQ ?_; (repeat (first | (with_reducible exact List.mem_cons_self) | apply List.mem_cons_of_mem)))); rintro e wh ⟨rfl, be⟩; replace L := L.step be; clear be))
    clear c00 c01 c02 c10 c11 c12 c20 c21 c22 c30 c31 c32
    go_wp2_with fail
    go_ret
    exact ⟨rfl, L.below⟩

end Go.Proofs.YtbndgggjfjdfbaaGreatDoor
