/- The walk of RationalLaws: whatever the input, the law returns true and turns nothing that was there. -/
import Derived.Test.YtbndgggjfjdfbaaGreatDoorAwake7
import Derived.Test.YtbndgggjfjdfbaaGreatDoorMillTwo
import Derived.Test.YtbndgggjfjdfbaaGreatDoorRatP2
import Derived.Test.YtbndgggjfjdfbaaGreatDoorRefRatD
import Derived.Test.YtbndgggjfjdfbaaGreatDoorRatWays
import Derived.Deep.RegionHeld3
import Derived.Deep.DrawnRows
import Derived.Deep.Cut
import Derived.Deep.CutRange
namespace Go.Proofs.YtbndgggjfjdfbaaGreatDoor
open Go.RowKit
set_option linter.unusedVariables false
set_option linter.unusedSimpArgs false
set_option maxRecDepth 100000
attribute [local go_sem ↓] Go.wp_at_zero Go.wp_at_succ

/-- A fraction whose parts are at most so long. -/
def Sz (q : Rat) (k : Nat) : Prop := zl q.num ≤ k ∧ len q.den ≤ k
theorem Sz.add {q r : Rat} {k : Nat} (h1 : Sz q k) (h2 : Sz r k) : Sz (q + r) (2 * k + 1) := by
  unfold Sz
  rw [← rat_add q r, ← Int.natCast_mul]
  have l1 := zl_mul q.num (r.den : Int)
  have l2 := zl_mul r.num (q.den : Int)
  have l3 := len_mul q.den r.den
  have l4 := zl_add (q.num * (r.den : Int)) (r.num * (q.den : Int))
  have e1 : zl (r.den : Int) = len r.den := rfl
  have e2 : zl (q.den : Int) = len q.den := rfl
  exact divInt_small _ _ _ (by have := h1.1; have := h1.2; have := h2.1; have := h2.2; omega) (by have := h1.2; have := h2.2; omega) (Nat.mul_pos (den_pos' q) (den_pos' r))
theorem Sz.mul {q r : Rat} {k : Nat} (h1 : Sz q k) (h2 : Sz r k) : Sz (q * r) (2 * k) := by
  unfold Sz
  rw [← rat_mul q r, ← Int.natCast_mul]
  have l1 := zl_mul q.num r.num
  have l3 := len_mul q.den r.den
  exact divInt_small _ _ _ (by have := h1.1; have := h2.1; omega) (by have := h1.2; have := h2.2; omega) (Nat.mul_pos (den_pos' q) (den_pos' r))
theorem Sz.mono {q : Rat} {k l : Nat} (h : Sz q k) (hl : k ≤ l) : Sz q l := ⟨Nat.le_trans h.1 hl, Nat.le_trans h.2 hl⟩
theorem padd_q {q r : Rat} (h1 : Sz q 1000) (h2 : Sz r 1000) (v u : Value) (W : World) (k1 : IsP W v q.num q.den) (k2 : IsP W u r.num r.den) :
    Calls Tryz.prog 19 #[v, u] W (RetP W (q + r).num (q + r).den) := by
  have h := padd_any q.num q.den r.num r.den v u W k1 k2 (Nat.le_trans h1.1 (by omega)) (Nat.le_trans h1.2 (by omega)) (Nat.le_trans h2.1 (by omega)) (Nat.le_trans h2.2 (by omega)) (den_pos' q) (den_pos' r)
  unfold RetQ at h
  rwa [rat_add] at h
theorem pmul_q {q r : Rat} (h1 : Sz q 1000) (h2 : Sz r 1000) (v u : Value) (W : World) (k1 : IsP W v q.num q.den) (k2 : IsP W u r.num r.den) :
    Calls Tryz.prog 23 #[v, u] W (RetP W (q * r).num (q * r).den) := by
  have h := pmul_any q.num q.den r.num r.den v u W k1 k2 (Nat.le_trans h1.1 (by omega)) (Nat.le_trans h1.2 (by omega)) (Nat.le_trans h2.1 (by omega)) (Nat.le_trans h2.2 (by omega)) (den_pos' q) (den_pos' r)
  unfold RetQ at h
  rwa [rat_mul] at h
theorem pdiv_q {q r : Rat} (h1 : Sz q 1000) (h2 : Sz r 1000) (hr : r ≠ 0) (v u : Value) (W : World) (k1 : IsP W v q.num q.den) (k2 : IsP W u r.num r.den) :
    Calls Tryz.prog 17 #[v, u] W (RetPE W (q / r).num (q / r).den 0) := by
  have h := pdiv_any q.num q.den r.num r.den v u W k1 k2 (Nat.le_trans h1.1 (by omega)) (Nat.le_trans h1.2 (by omega)) (Nat.le_trans h2.1 (by omega)) (Nat.le_trans h2.2 (by omega)) (den_pos' q) (num_ne hr)
  rwa [rat_div] at h
theorem Sz.div {q r : Rat} {k : Nat} (h1 : Sz q k) (h2 : Sz r k) (hr : r ≠ 0) : Sz (q / r) (2 * k) := by
  unfold Sz
  rw [← rat_div q r]
  have l1 := zl_mul q.num (r.den : Int)
  have l3 := zl_mul (q.den : Int) r.num
  have e1 : zl (r.den : Int) = len r.den := rfl
  have e2 : zl (q.den : Int) = len q.den := rfl
  have h0 : (q.den : Int) * r.num ≠ 0 := Int.mul_ne_zero (den_ne q) (num_ne hr)
  obtain ⟨e3, e4⟩ := divInt_pair (q.num * (r.den : Int)) ((q.den : Int) * r.num) h0
  rw [e3, e4, zl_sg]
  have d1 := len_div_le (q.num * (r.den : Int)).natAbs (Nat.gcd (q.num * (r.den : Int)).natAbs ((q.den : Int) * r.num).natAbs)
  have d2 := len_div_le ((q.den : Int) * r.num).natAbs (Nat.gcd (q.num * (r.den : Int)).natAbs ((q.den : Int) * r.num).natAbs)
  have := h1.1; have := h1.2; have := h2.1; have := h2.2
  exact ⟨Nat.le_trans d1 (Nat.le_trans l1 (by omega)), Nat.le_trans d2 (Nat.le_trans l3 (by omega))⟩

set_option maxHeartbeats 8000000 in
theorem walk_RationalLaws (b0 : Bool) (a0 : Option Addr) (len0 cap0 : Nat) (z0 : List Nat) (x0 : Option Addr) (nen0 nap0 : Nat) (y0 : List Nat) (b1 : Bool) (a1 : Option Addr) (len1 cap1 : Nat) (z1 : List Nat) (x1 : Option Addr) (nen1 nap1 : Nat) (y1 : List Nat) (b2 : Bool) (a2 : Option Addr) (len2 cap2 : Nat) (z2 : List Nat) (x2 : Option Addr) (nen2 nap2 : Nat) (y2 : List Nat) (w : World) (h0 : Sl w a0 len0 cap0 z0 ∧ Sl w x0 nen0 nap0 y0) (h1 : Sl w a1 len1 cap1 z1 ∧ Sl w x1 nen1 nap1 y1) (h2 : Sl w a2 len2 cap2 z2 ∧ Sl w x2 nen2 nap2 y2) (hT : Tab w) :
    Calls Tryz.prog 5 #[.agg #[.bool b0, .slice a0 len0 cap0, .slice x0 nen0 nap0], .agg #[.bool b1, .slice a1 len1 cap1, .slice x1 nen1 nap1], .agg #[.bool b2, .slice a2 len2 cap2, .slice x2 nen2 nap2]] w (fun e w' => e = .returned (.bool true) ∧ Below w.heap.size w w') := by
  go_enter Tryz.func5, Tryz.ntmps5
  go_wp2_with fail
  have L := ((((Lq.mk0 w).varQ (w.heap.size) (by simp) b0 a0 x0 len0 cap0 nen0 nap0).varQ (w.heap.size + 1) (by simp) b1 a1 x1 len1 cap1 nen1 nap1).varQ (w.heap.size + 2) (by simp) b2 a2 x2 len2 cap2 nen2 nap2)
  refine (awake7_any _ (hT.mono L.below)).mono ?_
  rintro e w1 ⟨rfl, be⟩
  replace L := L.step be
  clear be
  have c00 := L.b0.c30
  have c01 := L.b0.c31
  have c02 := L.b0.c32
  have c10 := L.tl.b0.c30
  have c11 := L.tl.b0.c31
  have c12 := L.tl.b0.c32
  have c20 := L.tl.tl.b0.c30
  have c21 := L.tl.tl.b0.c31
  have c22 := L.tl.tl.b0.c32
  go_wp2_with fail
  refine (two7_any b0 b1 z0 y0 z1 y1 3 a0 x0 a1 x1 len0 cap0 nen0 nap0 len1 cap1 nen1 nap1 _ (h0.1.mono L.below) (h0.2.mono L.below) (h1.1.mono L.below) (h1.2.mono L.below) (by omega)).mono ?_
  rintro e w2 ⟨vx, vy, ok, a, d, b, e', rfl, ix, iy, la, ld, lb, le, hv, be⟩
  clear c00 c01 c02 c10 c11 c12 c20 c21 c22
  replace L := ((L.step be).q iy).q ix
  obtain ⟨A, c, B, i, rfl, _, _, _⟩ := ix.form
  obtain ⟨C, j, D', k, rfl, _, _, _⟩ := iy.form
  clear be ix iy
  have hl0 := L.b0.lt
  replace L := ((L.varQ w2.heap.size rfl (ng a) A B (zl a) c (len d) i).varQ (w2.heap.size + 1) (by simp) (ng b) C D' (zl b) j (len e') k)
  have c00 := L.b0.c30
  have c01 := L.b0.c31
  have c02 := L.b0.c32
  have c10 := L.tl.b0.c30
  have c11 := L.tl.b0.c31
  have c12 := L.tl.b0.c32
  have c20 := L.tl.tl.b0.c30
  have c21 := L.tl.tl.b0.c31
  have c22 := L.tl.tl.b0.c32
  have c30 := L.tl.tl.tl.b0.c30
  have c31 := L.tl.tl.tl.b0.c31
  have c32 := L.tl.tl.tl.b0.c32
  have c40 := L.tl.tl.tl.tl.b0.c30
  have c41 := L.tl.tl.tl.tl.b0.c31
  have c42 := L.tl.tl.tl.tl.b0.c32
  go_wp2_with fail
  clear c00 c01 c02 c10 c11 c12 c20 c21 c22 c30 c31 c32 c40 c41 c42
  obtain ⟨g, hg⟩ : ∃ g, w2.heap.size = g := ⟨_, rfl⟩
  rw [hg] at L hl0 ⊢
  clear hg
  have c00 := L.b0.c30
  have c01 := L.b0.c31
  have c02 := L.b0.c32
  have c10 := L.tl.b0.c30
  have c11 := L.tl.b0.c31
  have c12 := L.tl.b0.c32
  have c20 := L.tl.tl.b0.c30
  have c21 := L.tl.tl.b0.c31
  have c22 := L.tl.tl.b0.c32
  have c30 := L.tl.tl.tl.b0.c30
  have c31 := L.tl.tl.tl.b0.c31
  have c32 := L.tl.tl.tl.b0.c32
  have c40 := L.tl.tl.tl.tl.b0.c30
  have c41 := L.tl.tl.tl.tl.b0.c31
  have c42 := L.tl.tl.tl.tl.b0.c32
  refine (millRat_any b2 z2 y2 3 a2 x2 len2 cap2 nen2 nap2 _ (h2.1.mono L.below) (h2.2.mono L.below) (by omega)).mono ?_
  rintro e w3 ⟨vz, ok2, p, s, rfl, iz, lp, ls, hv2, be⟩
  clear c00 c01 c02 c10 c11 c12 c20 c21 c22 c30 c31 c32 c40 c41 c42
  replace L := (L.step be).q iz
  obtain ⟨A3, c3, B3, d3, rfl, _, _, _⟩ := iz.form
  clear be iz
  have hl1 := L.b0.lt
  replace L := L.varQ w3.heap.size rfl (ng p) A3 B3 (zl p) c3 (len s) d3
  cases ok
  · go_wp2_with fail
    go_ret
    exact ⟨rfl, L.below⟩
  · cases ok2
    · go_wp2_with fail
      go_ret
      exact ⟨rfl, L.below⟩
    · obtain ⟨⟨q, hq1, hq2⟩, r, hr1, hr2⟩ := hv rfl
      obtain ⟨u, hu1, hu2⟩ := hv2 rfl
      clear hv hv2
      have sq : Sz q 4 := by unfold Sz; rw [← hq1, ← hq2]; exact ⟨la, ld⟩
      have sr : Sz r 4 := by unfold Sz; rw [← hr1, ← hr2]; exact ⟨lb, le⟩
      have su : Sz u 4 := by unfold Sz; rw [← hu1, ← hu2]; exact ⟨lp, ls⟩
      have syz := sr.add su
      have sxy := sq.mul sr
      have sxz := sq.mul su
      have sx_y := sq.add sr
      have p1 := padd_q (sr.mono (by omega)) (su.mono (by omega))
      have p2 := pmul_q (sq.mono (by omega)) (syz.mono (by omega))
      have p3 := pmul_q (sq.mono (by omega)) (sr.mono (by omega))
      have p4 := pmul_q (sq.mono (by omega)) (su.mono (by omega))
      have p5 := padd_q (sxy.mono (by omega)) (sxz.mono (by omega))
      rw [← Rat.mul_add] at p5
      have p6 := padd_q (sq.mono (by omega)) (sr.mono (by omega))
      have p7 := padd_q (sx_y.mono (by omega)) (su.mono (by omega))
      rw [Rat.add_assoc] at p7
      have p8 := padd_q (sq.mono (by omega)) (syz.mono (by omega))
      have HZ0 := Lib.hid (fun v w' W (k1 : IsP W v a d) (k2 : IsP W w' 0 e') => pdiv_zero a d e' v w' W k1 k2 (by omega) (by omega) (by omega))
      have p9 := fun hr0 => pdiv_q (q := q) (r := r) (sq.mono (by omega)) (sr.mono (by omega)) hr0
      have p10 := fun (hr0 : r ≠ 0) => pmul_q (q := q / r) (r := r) ((sq.div sr hr0).mono (by omega)) (sr.mono (by omega))
      have hdc := fun (hr0 : r ≠ 0) => Rat.div_mul_cancel (a := q) hr0
      have hbr : b = 0 ↔ r = 0 := by rw [hr1]; exact num_zero_iff r
      have P9 := Lib.hid (fun hr0 : r ≠ 0 => p9 hr0)
      have P10 : ∀ hr0 : r ≠ 0, ∀ v w' W, IsP W v (q / r).num (q / r).den → IsP W w' r.num r.den → Calls Tryz.prog 23 #[v, w'] W (RetP W q.num q.den) := fun hr0 v w' W k1 k2 => by
        have := p10 hr0 v w' W k1 k2
        rwa [hdc hr0] at this
      replace P10 := Lib.hid P10
      have HSG := Lib.hid (fun v W k1 => psign_any b e' v W k1 (by omega))
      rw [← hq1, ← hq2] at p2 p3 p4 p6 p8
      rw [← hr1, ← hr2] at p1 p3 p6
      rw [← hu1, ← hu2] at p1 p4 p7
      rw [← hq1, ← hq2, ← hr1, ← hr2] at P9 P10
      have HBR := Lib.hid hbr
      clear hbr p9 p10 hdc sq sr su syz sxy sxz sx_y hq1 hq2 hr1 hr2 hu1 hu2 la ld lb le lp ls
      have P1 := Lib.hid p1
      have P2 := Lib.hid p2
      have P3 := Lib.hid p3
      have P4 := Lib.hid p4
      have P5 := Lib.hid p5
      have P6 := Lib.hid p6
      have P7 := Lib.hid p7
      have P8 := Lib.hid p8
      clear p1 p2 p3 p4 p5 p6 p7 p8 hT h0 h1 h2
      generalize (r + u).num = n1 at *
      generalize (r + u).den = m1 at *
      generalize (q * (r + u)).num = n2 at *
      generalize (q * (r + u)).den = m2 at *
      generalize (q * r).num = n3 at *
      generalize (q * r).den = m3 at *
      generalize (q * u).num = n4 at *
      generalize (q * u).den = m4 at *
      generalize (q + r).num = n5 at *
      generalize (q + r).den = m5 at *
      generalize (q + (r + u)).num = n6 at *
      generalize (q + (r + u)).den = m6 at *
      generalize (q / r).num = n7 at *
      generalize (q / r).den = m7 at *
      go_wp2_with fail
      obtain ⟨gz, hg⟩ : ∃ g, w3.heap.size = g := ⟨_, rfl⟩
      rw [hg] at L hl1 ⊢
      clear hg
      obtain ⟨V, hV⟩ : ∃ V, w3.alloc (.cells #[.bool (ng p), .slice A3 (zl p) c3, .slice B3 (len s) d3] 26) = V := ⟨_, rfl⟩
      rw [hV] at L ⊢
      clear hV
      have hgm0 := L.b0.lt
      have Q0 := Lib.hid (fun Z (hZ : Below V.heap.size V Z) => (L.tl.tl.b0.mono hZ).c30)
      have Q1 := Lib.hid (fun Z (hZ : Below V.heap.size V Z) => (L.tl.tl.b0.mono hZ).c31)
      have Q2 := Lib.hid (fun Z (hZ : Below V.heap.size V Z) => (L.tl.tl.b0.mono hZ).c32)
      have Q3 := Lib.hid (fun Z (hZ : Below V.heap.size V Z) => (L.tl.b0.mono hZ).c30)
      have Q4 := Lib.hid (fun Z (hZ : Below V.heap.size V Z) => (L.tl.b0.mono hZ).c31)
      have Q5 := Lib.hid (fun Z (hZ : Below V.heap.size V Z) => (L.tl.b0.mono hZ).c32)
      have Q6 := Lib.hid (fun Z (hZ : Below V.heap.size V Z) => (L.b0.mono hZ).c30)
      have Q7 := Lib.hid (fun Z (hZ : Below V.heap.size V Z) => (L.b0.mono hZ).c31)
      have Q8 := Lib.hid (fun Z (hZ : Below V.heap.size V Z) => (L.b0.mono hZ).c32)
      have GX := Lib.hid (L.getQ (v := .agg #[.bool (ng a), .slice A (zl a) c, .slice B (len d) i]) (a := a) (d := d) (by simp))
      have GY := Lib.hid (L.getQ (v := .agg #[.bool (ng b), .slice C (zl b) j, .slice D' (len e') k]) (a := b) (d := e') (by simp))
      have GZ := Lib.hid (L.getQ (v := .agg #[.bool (ng p), .slice A3 (zl p) c3, .slice B3 (len s) d3]) (a := p) (d := s) (by simp))
      have LL := Lib.hid L
      have D0 : Dq V V [] [] [(.agg #[.bool (ng a), .slice A (zl a) c, .slice B (len d) i], a, d), (.agg #[.bool (ng b), .slice C (zl b) j, .slice D' (len e') k], b, e'), (.agg #[.bool (ng p), .slice A3 (zl p) c3, .slice B3 (len s) d3], p, s)] [] := ⟨(((Lq.mk0 V).q GZ.out).q GY.out).q GX.out, List.nodup_nil, fun p hp => by cases hp⟩
      clear L GX GY GZ
      have D := D0.drew
      obtain ⟨M, hM⟩ : ∃ M, V.heap.size = M := ⟨_, rfl⟩
      have hz0 : M ≤ V.heap.size := by omega
      have hmx : g < M := by omega
      have hmy : g + 1 < M := by omega
      have hmz : gz < M := by omega
      have hmd : V.drew.heap.size = M := hM
      go_cut [12] from 35 to 39 (fun s5 wx => Made1Q V n2 m2 s5 wx)
      case first =>
        go_region_held3 (fun w' => w'.cell? ⟨g, 0, none⟩ = some (.bool (ng a)) ∧ w'.cell? ⟨g, 1, none⟩ = some (.slice A (zl a) c) ∧ w'.cell? ⟨g, 2, none⟩ = some (.slice B (len d) i) ∧ w'.cell? ⟨g + 1, 0, none⟩ = some (.bool (ng b)) ∧ w'.cell? ⟨g + 1, 1, none⟩ = some (.slice C (zl b) j) ∧ w'.cell? ⟨g + 1, 2, none⟩ = some (.slice D' (len e') k) ∧ w'.cell? ⟨gz, 0, none⟩ = some (.bool (ng p)) ∧ w'.cell? ⟨gz, 1, none⟩ = some (.slice A3 (zl p) c3) ∧ w'.cell? ⟨gz, 2, none⟩ = some (.slice B3 (len s) d3)) (((try dsimp only); refine ⟨?_, ?_, ?_, ?_, ?_, ?_, ?_, ?_, ?_⟩ <;> (repeat (first | (with_reducible exact Q0.out _ D.lq.below) | (with_reducible exact Q0.out _ D0.lq.below) | (with_reducible exact Q1.out _ D.lq.below) | (with_reducible exact Q1.out _ D0.lq.below) | (with_reducible exact Q2.out _ D.lq.below) | (with_reducible exact Q2.out _ D0.lq.below) | (with_reducible exact Q3.out _ D.lq.below) | (with_reducible exact Q3.out _ D0.lq.below) | (with_reducible exact Q4.out _ D.lq.below) | (with_reducible exact Q4.out _ D0.lq.below) | (with_reducible exact Q5.out _ D.lq.below) | (with_reducible exact Q5.out _ D0.lq.below) | (with_reducible exact Q6.out _ D.lq.below) | (with_reducible exact Q6.out _ D0.lq.below) | (with_reducible exact Q7.out _ D.lq.below) | (with_reducible exact Q7.out _ D0.lq.below) | (with_reducible exact Q8.out _ D.lq.below) | (with_reducible exact Q8.out _ D0.lq.below) | (with_reducible refine c_alloc _ ?_) | (with_reducible refine c_drew ?_) | (with_reducible refine c_set ?_ (by assumption) ?_) | omega)))) (first | (go_at_call 19; (with_reducible refine (P1.out _ _ _ ?_ ?_ ).mono ?_); (· (first | (with_reducible refine D.getQ ?_; (repeat (first | (with_reducible exact List.mem_cons_self) | apply List.mem_cons_of_mem))) | (with_reducible refine (D.box false none none 0 0 0 0).getQ ?_; (repeat (first | (with_reducible exact List.mem_cons_self) | apply List.mem_cons_of_mem))) | (with_reducible refine (D0.box false none none 0 0 0 0).drew.getQ ?_; (repeat (first | (with_reducible exact List.mem_cons_self) | apply List.mem_cons_of_mem))))); (· (first | (with_reducible refine D.getQ ?_; (repeat (first | (with_reducible exact List.mem_cons_self) | apply List.mem_cons_of_mem))) | (with_reducible refine (D.box false none none 0 0 0 0).getQ ?_; (repeat (first | (with_reducible exact List.mem_cons_self) | apply List.mem_cons_of_mem))) | (with_reducible refine (D0.box false none none 0 0 0 0).drew.getQ ?_; (repeat (first | (with_reducible exact List.mem_cons_self) | apply List.mem_cons_of_mem))))); rintro e wh ⟨vh, rfl, iq, be⟩; (first | (replace D := (D.step be).q iq) | (replace D := ((D.boxM hmd false none none 0 0 0 0).step be).q iq) | (replace D := ((D.box false none none 0 0 0 0).step be).q iq)); have hz := be.size; (try simp at hz); (try (have x00 := D.lq.b0.c30; have x01 := D.lq.b0.c31; have x02 := D.lq.b0.c32; have y00 := D.lq.b0.fr 0; have y01 := D.lq.b0.fr 1; have y02 := D.lq.b0.fr 2)); (try obtain ⟨na, nb, nc, nd, nl⟩ := D.n0)) | (go_at_call 23; (with_reducible refine (P2.out _ _ _ ?_ ?_ ).mono ?_); (· (first | (with_reducible refine D.getQ ?_; (repeat (first | (with_reducible exact List.mem_cons_self) | apply List.mem_cons_of_mem))) | (with_reducible refine (D.box false none none 0 0 0 0).getQ ?_; (repeat (first | (with_reducible exact List.mem_cons_self) | apply List.mem_cons_of_mem))) | (with_reducible refine (D0.box false none none 0 0 0 0).drew.getQ ?_; (repeat (first | (with_reducible exact List.mem_cons_self) | apply List.mem_cons_of_mem))))); (· (first | (with_reducible refine D.getQ ?_; (repeat (first | (with_reducible exact List.mem_cons_self) | apply List.mem_cons_of_mem))) | (with_reducible refine (D.box false none none 0 0 0 0).getQ ?_; (repeat (first | (with_reducible exact List.mem_cons_self) | apply List.mem_cons_of_mem))) | (with_reducible refine (D0.box false none none 0 0 0 0).drew.getQ ?_; (repeat (first | (with_reducible exact List.mem_cons_self) | apply List.mem_cons_of_mem))))); rintro e wh ⟨vh, rfl, iq, be⟩; (first | (replace D := (D.step be).q iq) | (replace D := ((D.boxM hmd false none none 0 0 0 0).step be).q iq) | (replace D := ((D.box false none none 0 0 0 0).step be).q iq)); have hz := be.size; (try simp at hz); obtain ⟨A9, c9, B9, d9, rfl, _, _, _⟩ := iq.form; (try (have x00 := D.lq.b0.c30; have x01 := D.lq.b0.c31; have x02 := D.lq.b0.c32; have y00 := D.lq.b0.fr 0; have y01 := D.lq.b0.fr 1; have y02 := D.lq.b0.fr 2)); (try obtain ⟨na, nb, nc, nd, nl⟩ := D.n0)))
        all_goals
          go_wp2_with fail
          go_meet
          first
          | ((with_reducible refine made1q_a D ?_) <;> (repeat (first | (with_reducible exact List.mem_cons_self) | apply List.mem_cons_of_mem)))
          | ((with_reducible refine made1q_b D ?_) <;> (repeat (first | (with_reducible exact List.mem_cons_self) | apply List.mem_cons_of_mem)))
      case rest =>
        obtain ⟨g4, A4, c4, B4, d4, rfl, hg4, bw, hbx, hqq⟩ := hcut
        have L := ((LL.out.step bw).q hqq).b hbx
        clear D D0 hmd hz0 hmx hmy hmz Q0 Q1 Q2 Q3 Q4 Q5 Q6 Q7 Q8 LL bw hbx hqq hg4 hM
        clear hgm0
        generalize wc = wd at *
        go_wp2_with fail
        replace L := L.drew
        have S0 := Lib.hid (fun v u' W k1 k2 => same7_yes n2 m2 v u' W k1 k2)
        have S1 := Lib.hid (fun v u' W k1 k2 => same7_yes n6 m6 v u' W k1 k2)
        have c00 := L.b0.c30
        have c01 := L.b0.c31
        have c02 := L.b0.c32
        have c10 := L.tl.b0.c30
        have c11 := L.tl.b0.c31
        have c12 := L.tl.b0.c32
        have c20 := L.tl.tl.b0.c30
        have c21 := L.tl.tl.b0.c31
        have c22 := L.tl.tl.b0.c32
        have c30 := L.tl.tl.tl.b0.c30
        have c31 := L.tl.tl.tl.b0.c31
        have c32 := L.tl.tl.tl.b0.c32
        have c40 := L.tl.tl.tl.tl.b0.c30
        have c41 := L.tl.tl.tl.tl.b0.c31
        have c42 := L.tl.tl.tl.tl.b0.c32
        have c50 := L.tl.tl.tl.tl.tl.b0.c30
        have c51 := L.tl.tl.tl.tl.tl.b0.c31
        have c52 := L.tl.tl.tl.tl.tl.b0.c32
        have c60 := L.tl.tl.tl.tl.tl.tl.b0.c30
        have c61 := L.tl.tl.tl.tl.tl.tl.b0.c31
        have c62 := L.tl.tl.tl.tl.tl.tl.b0.c32
        go_region_held3 (fun w' => w'.cell? ⟨g4, 0, none⟩ = some (.bool (ng n2)) ∧ w'.cell? ⟨g4, 1, none⟩ = some (.slice A4 (zl n2) c4) ∧ w'.cell? ⟨g4, 2, none⟩ = some (.slice B4 (len m2) d4) ∧ w'.cell? ⟨gz, 0, none⟩ = some (.bool (ng p)) ∧ w'.cell? ⟨gz, 1, none⟩ = some (.slice A3 (zl p) c3) ∧ w'.cell? ⟨gz, 2, none⟩ = some (.slice B3 (len s) d3) ∧ w'.cell? ⟨g + 1, 0, none⟩ = some (.bool (ng b)) ∧ w'.cell? ⟨g + 1, 1, none⟩ = some (.slice C (zl b) j) ∧ w'.cell? ⟨g + 1, 2, none⟩ = some (.slice D' (len e') k) ∧ w'.cell? ⟨g, 0, none⟩ = some (.bool (ng a)) ∧ w'.cell? ⟨g, 1, none⟩ = some (.slice A (zl a) c) ∧ w'.cell? ⟨g, 2, none⟩ = some (.slice B (len d) i)) (first | (with_reducible exact ⟨L.b0.c30, L.b0.c31, L.b0.c32, L.tl.b0.c30, L.tl.b0.c31, L.tl.b0.c32, L.tl.tl.b0.c30, L.tl.tl.b0.c31, L.tl.tl.b0.c32, L.tl.tl.tl.b0.c30, L.tl.tl.tl.b0.c31, L.tl.tl.tl.b0.c32⟩) | exact ⟨L.b0.c30, L.b0.c31, L.b0.c32, L.tl.b0.c30, L.tl.b0.c31, L.tl.b0.c32, L.tl.tl.b0.c30, L.tl.tl.b0.c31, L.tl.tl.b0.c32, L.tl.tl.tl.b0.c30, L.tl.tl.tl.b0.c31, L.tl.tl.tl.b0.c32⟩) (first | (go_at_call 23; (with_reducible refine (P3.out _ _ _ ?_ ?_ ).mono ?_); (· (refine L.getQ ?_; (repeat (first | (with_reducible exact List.mem_cons_self) | apply List.mem_cons_of_mem)))); (· (refine L.getQ ?_; (repeat (first | (with_reducible exact List.mem_cons_self) | apply List.mem_cons_of_mem)))); rintro e wh ⟨vh, rfl, iq, be⟩; replace L := (L.step be).q iq; clear be iq) | (go_at_call 23; (with_reducible refine (P4.out _ _ _ ?_ ?_ ).mono ?_); (· (refine L.getQ ?_; (repeat (first | (with_reducible exact List.mem_cons_self) | apply List.mem_cons_of_mem)))); (· (refine L.getQ ?_; (repeat (first | (with_reducible exact List.mem_cons_self) | apply List.mem_cons_of_mem)))); rintro e wh ⟨vh, rfl, iq, be⟩; replace L := (L.step be).q iq; clear be iq) | (go_at_call 19; (with_reducible refine (P5.out _ _ _ ?_ ?_ ).mono ?_); (· (refine L.getQ ?_; (repeat (first | (with_reducible exact List.mem_cons_self) | apply List.mem_cons_of_mem)))); (· (refine L.getQ ?_; (repeat (first | (with_reducible exact List.mem_cons_self) | apply List.mem_cons_of_mem)))); rintro e wh ⟨vh, rfl, iq, be⟩; replace L := (L.step be).q iq; clear be iq) | (go_at_call 19; (with_reducible refine (P6.out _ _ _ ?_ ?_ ).mono ?_); (· (refine L.getQ ?_; (repeat (first | (with_reducible exact List.mem_cons_self) | apply List.mem_cons_of_mem)))); (· (refine L.getQ ?_; (repeat (first | (with_reducible exact List.mem_cons_self) | apply List.mem_cons_of_mem)))); rintro e wh ⟨vh, rfl, iq, be⟩; replace L := (L.step be).q iq; clear be iq) | (go_at_call 19; (with_reducible refine (P7.out _ _ _ ?_ ?_ ).mono ?_); (· (refine L.getQ ?_; (repeat (first | (with_reducible exact List.mem_cons_self) | apply List.mem_cons_of_mem)))); (· (refine L.getQ ?_; (repeat (first | (with_reducible exact List.mem_cons_self) | apply List.mem_cons_of_mem)))); rintro e wh ⟨vh, rfl, iq, be⟩; replace L := (L.step be).q iq; clear be iq) | (go_at_call 19; (with_reducible refine (P8.out _ _ _ ?_ ?_ ).mono ?_); (· (refine L.getQ ?_; (repeat (first | (with_reducible exact List.mem_cons_self) | apply List.mem_cons_of_mem)))); (· (refine L.getQ ?_; (repeat (first | (with_reducible exact List.mem_cons_self) | apply List.mem_cons_of_mem)))); rintro e wh ⟨vh, rfl, iq, be⟩; replace L := (L.step be).q iq; clear be iq) | (go_at_call 19; (with_reducible refine (P1.out _ _ _ ?_ ?_ ).mono ?_); (· (refine L.getQ ?_; (repeat (first | (with_reducible exact List.mem_cons_self) | apply List.mem_cons_of_mem)))); (· (refine L.getQ ?_; (repeat (first | (with_reducible exact List.mem_cons_self) | apply List.mem_cons_of_mem)))); rintro e wh ⟨vh, rfl, iq, be⟩; replace L := (L.step be).q iq; clear be iq) | (go_at_call 15; (with_reducible refine (S0.out _ _ _ ?_ ?_ ).mono ?_); (· (refine L.getQ ?_; (repeat (first | (with_reducible exact List.mem_cons_self) | apply List.mem_cons_of_mem)))); (· (refine L.getQ ?_; (repeat (first | (with_reducible exact List.mem_cons_self) | apply List.mem_cons_of_mem)))); rintro e wh ⟨rfl, be⟩; replace L := L.step be; clear be) | (go_at_call 15; (with_reducible refine (S1.out _ _ _ ?_ ?_ ).mono ?_); (· (refine L.getQ ?_; (repeat (first | (with_reducible exact List.mem_cons_self) | apply List.mem_cons_of_mem)))); (· (refine L.getQ ?_; (repeat (first | (with_reducible exact List.mem_cons_self) | apply List.mem_cons_of_mem)))); rintro e wh ⟨rfl, be⟩; replace L := L.step be; clear be))
        clear c00 c01 c02 c10 c11 c12 c20 c21 c22 c30 c31 c32 c40 c41 c42 c50 c51 c52 c60 c61 c62
        clear P1 P2 P3 P4 P5 P6 P7 P8 S0 S1
        by_cases hb : b = 0
        · subst hb
          have hs0 : cmpI 0 0 = 0 := rfl
          rw [hs0] at HSG
          clear hs0 P9 P10 HBR
          have c00 := L.b0.c30
          have c01 := L.b0.c31
          have c02 := L.b0.c32
          have c10 := L.tl.b0.c30
          have c11 := L.tl.b0.c31
          have c12 := L.tl.b0.c32
          have c20 := L.tl.tl.b0.c30
          have c21 := L.tl.tl.b0.c31
          have c22 := L.tl.tl.b0.c32
          have c30 := L.tl.tl.tl.b0.c30
          have c31 := L.tl.tl.tl.b0.c31
          have c32 := L.tl.tl.tl.b0.c32
          have c40 := L.tl.tl.tl.tl.b0.c30
          have c41 := L.tl.tl.tl.tl.b0.c31
          have c42 := L.tl.tl.tl.tl.b0.c32
          have c50 := L.tl.tl.tl.tl.tl.b0.c30
          have c51 := L.tl.tl.tl.tl.tl.b0.c31
          have c52 := L.tl.tl.tl.tl.tl.b0.c32
          have c60 := L.tl.tl.tl.tl.tl.tl.b0.c30
          have c61 := L.tl.tl.tl.tl.tl.tl.b0.c31
          have c62 := L.tl.tl.tl.tl.tl.tl.b0.c32
          go_wp2_with fail
          refine (HZ0.out _ _ _ (L.getQ (by simp)) (L.getQ (by simp))).mono ?_
          rintro e w4 ⟨v, rfl, iq, be⟩
          clear c00 c01 c02 c10 c11 c12 c20 c21 c22 c30 c31 c32 c40 c41 c42 c50 c51 c52 c60 c61 c62
          replace L := (L.step be).q iq
          obtain ⟨A5, c5, B5, d5, rfl, _, _, _⟩ := iq.form
          clear be iq
          have hl5 := L.b0.lt
          replace L := L.varQ w4.heap.size rfl (ng 0) A5 B5 (zl 0) c5 (len 0) d5
          have c00 := L.b0.c30
          have c01 := L.b0.c31
          have c02 := L.b0.c32
          have c10 := L.tl.b0.c30
          have c11 := L.tl.b0.c31
          have c12 := L.tl.b0.c32
          have c20 := L.tl.tl.b0.c30
          have c21 := L.tl.tl.b0.c31
          have c22 := L.tl.tl.b0.c32
          have c30 := L.tl.tl.tl.b0.c30
          have c31 := L.tl.tl.tl.b0.c31
          have c32 := L.tl.tl.tl.b0.c32
          have c40 := L.tl.tl.tl.tl.b0.c30
          have c41 := L.tl.tl.tl.tl.b0.c31
          have c42 := L.tl.tl.tl.tl.b0.c32
          have c50 := L.tl.tl.tl.tl.tl.b0.c30
          have c51 := L.tl.tl.tl.tl.tl.b0.c31
          have c52 := L.tl.tl.tl.tl.tl.b0.c32
          have c60 := L.tl.tl.tl.tl.tl.tl.b0.c30
          have c61 := L.tl.tl.tl.tl.tl.tl.b0.c31
          have c62 := L.tl.tl.tl.tl.tl.tl.b0.c32
          have c70 := L.tl.tl.tl.tl.tl.tl.tl.b0.c30
          have c71 := L.tl.tl.tl.tl.tl.tl.tl.b0.c31
          have c72 := L.tl.tl.tl.tl.tl.tl.tl.b0.c32
          go_wp2_with fail
          clear c00 c01 c02 c10 c11 c12 c20 c21 c22 c30 c31 c32 c40 c41 c42 c50 c51 c52 c60 c61 c62 c70 c71 c72
          obtain ⟨g5, hg⟩ : ∃ g, w4.heap.size = g := ⟨_, rfl⟩
          rw [hg] at L hl5 ⊢
          clear hg
          have c00 := L.b0.c30
          have c01 := L.b0.c31
          have c02 := L.b0.c32
          have c10 := L.tl.b0.c30
          have c11 := L.tl.b0.c31
          have c12 := L.tl.b0.c32
          have c20 := L.tl.tl.b0.c30
          have c21 := L.tl.tl.b0.c31
          have c22 := L.tl.tl.b0.c32
          have c30 := L.tl.tl.tl.b0.c30
          have c31 := L.tl.tl.tl.b0.c31
          have c32 := L.tl.tl.tl.b0.c32
          have c40 := L.tl.tl.tl.tl.b0.c30
          have c41 := L.tl.tl.tl.tl.b0.c31
          have c42 := L.tl.tl.tl.tl.b0.c32
          have c50 := L.tl.tl.tl.tl.tl.b0.c30
          have c51 := L.tl.tl.tl.tl.tl.b0.c31
          have c52 := L.tl.tl.tl.tl.tl.b0.c32
          have c60 := L.tl.tl.tl.tl.tl.tl.b0.c30
          have c61 := L.tl.tl.tl.tl.tl.tl.b0.c31
          have c62 := L.tl.tl.tl.tl.tl.tl.b0.c32
          have c70 := L.tl.tl.tl.tl.tl.tl.tl.b0.c30
          have c71 := L.tl.tl.tl.tl.tl.tl.tl.b0.c31
          have c72 := L.tl.tl.tl.tl.tl.tl.tl.b0.c32
          go_wp2_with fail
          refine (HSG.out _ _ (L.getQ (by simp))).mono ?_
          rintro e w5 ⟨rfl, be⟩
          clear c00 c01 c02 c10 c11 c12 c20 c21 c22 c30 c31 c32 c40 c41 c42 c50 c51 c52 c60 c61 c62 c70 c71 c72
          replace L := L.step be
          clear be
          have c00 := L.b0.c30
          have c01 := L.b0.c31
          have c02 := L.b0.c32
          have c10 := L.tl.b0.c30
          have c11 := L.tl.b0.c31
          have c12 := L.tl.b0.c32
          have c20 := L.tl.tl.b0.c30
          have c21 := L.tl.tl.b0.c31
          have c22 := L.tl.tl.b0.c32
          have c30 := L.tl.tl.tl.b0.c30
          have c31 := L.tl.tl.tl.b0.c31
          have c32 := L.tl.tl.tl.b0.c32
          have c40 := L.tl.tl.tl.tl.b0.c30
          have c41 := L.tl.tl.tl.tl.b0.c31
          have c42 := L.tl.tl.tl.tl.b0.c32
          have c50 := L.tl.tl.tl.tl.tl.b0.c30
          have c51 := L.tl.tl.tl.tl.tl.b0.c31
          have c52 := L.tl.tl.tl.tl.tl.b0.c32
          have c60 := L.tl.tl.tl.tl.tl.tl.b0.c30
          have c61 := L.tl.tl.tl.tl.tl.tl.b0.c31
          have c62 := L.tl.tl.tl.tl.tl.tl.b0.c32
          have c70 := L.tl.tl.tl.tl.tl.tl.tl.b0.c30
          have c71 := L.tl.tl.tl.tl.tl.tl.tl.b0.c31
          have c72 := L.tl.tl.tl.tl.tl.tl.tl.b0.c32
          go_wp2_with fail
          refine (same7_yes 0 0 _ _ _ (L.getQ (by simp)) (isP_zero _)).mono ?_
          rintro e w6 ⟨rfl, be⟩
          clear c00 c01 c02 c10 c11 c12 c20 c21 c22 c30 c31 c32 c40 c41 c42 c50 c51 c52 c60 c61 c62 c70 c71 c72
          replace L := L.step be
          clear be
          go_wp2_with fail
          go_ret
          exact ⟨rfl, L.below⟩
        · have hr0 : r ≠ 0 := fun e => hb (HBR.out.2 e)
          have R9 := Lib.hid (P9.out hr0)
          have R10 := Lib.hid (P10.out hr0)
          have hs0 : (cmpI b 0 == 0) = false := by
            rw [beq_eq_false_iff_ne]
            unfold cmpI
            (repeat' split) <;> omega
          clear P9 P10 HBR hb hr0 HZ0
          generalize cmpI b 0 = K at *
          have S2 := Lib.hid (fun v u' W k1 k2 => same7_yes a d v u' W k1 k2)
          have c00 := L.b0.c30
          have c01 := L.b0.c31
          have c02 := L.b0.c32
          have c10 := L.tl.b0.c30
          have c11 := L.tl.b0.c31
          have c12 := L.tl.b0.c32
          have c20 := L.tl.tl.b0.c30
          have c21 := L.tl.tl.b0.c31
          have c22 := L.tl.tl.b0.c32
          have c30 := L.tl.tl.tl.b0.c30
          have c31 := L.tl.tl.tl.b0.c31
          have c32 := L.tl.tl.tl.b0.c32
          have c40 := L.tl.tl.tl.tl.b0.c30
          have c41 := L.tl.tl.tl.tl.b0.c31
          have c42 := L.tl.tl.tl.tl.b0.c32
          have c50 := L.tl.tl.tl.tl.tl.b0.c30
          have c51 := L.tl.tl.tl.tl.tl.b0.c31
          have c52 := L.tl.tl.tl.tl.tl.b0.c32
          have c60 := L.tl.tl.tl.tl.tl.tl.b0.c30
          have c61 := L.tl.tl.tl.tl.tl.tl.b0.c31
          have c62 := L.tl.tl.tl.tl.tl.tl.b0.c32
          go_wp2_with fail
          refine (R9.out _ _ _ (L.getQ (by simp)) (L.getQ (by simp))).mono ?_
          rintro e w4 ⟨v, rfl, iq, be⟩
          clear c00 c01 c02 c10 c11 c12 c20 c21 c22 c30 c31 c32 c40 c41 c42 c50 c51 c52 c60 c61 c62
          replace L := (L.step be).q iq
          obtain ⟨A5, c5, B5, d5, rfl, _, _, _⟩ := iq.form
          clear be iq
          have hl5 := L.b0.lt
          replace L := L.varQ w4.heap.size rfl (ng n7) A5 B5 (zl n7) c5 (len m7) d5
          have c00 := L.b0.c30
          have c01 := L.b0.c31
          have c02 := L.b0.c32
          have c10 := L.tl.b0.c30
          have c11 := L.tl.b0.c31
          have c12 := L.tl.b0.c32
          have c20 := L.tl.tl.b0.c30
          have c21 := L.tl.tl.b0.c31
          have c22 := L.tl.tl.b0.c32
          have c30 := L.tl.tl.tl.b0.c30
          have c31 := L.tl.tl.tl.b0.c31
          have c32 := L.tl.tl.tl.b0.c32
          have c40 := L.tl.tl.tl.tl.b0.c30
          have c41 := L.tl.tl.tl.tl.b0.c31
          have c42 := L.tl.tl.tl.tl.b0.c32
          have c50 := L.tl.tl.tl.tl.tl.b0.c30
          have c51 := L.tl.tl.tl.tl.tl.b0.c31
          have c52 := L.tl.tl.tl.tl.tl.b0.c32
          have c60 := L.tl.tl.tl.tl.tl.tl.b0.c30
          have c61 := L.tl.tl.tl.tl.tl.tl.b0.c31
          have c62 := L.tl.tl.tl.tl.tl.tl.b0.c32
          have c70 := L.tl.tl.tl.tl.tl.tl.tl.b0.c30
          have c71 := L.tl.tl.tl.tl.tl.tl.tl.b0.c31
          have c72 := L.tl.tl.tl.tl.tl.tl.tl.b0.c32
          go_wp2_with fail
          clear c00 c01 c02 c10 c11 c12 c20 c21 c22 c30 c31 c32 c40 c41 c42 c50 c51 c52 c60 c61 c62 c70 c71 c72
          obtain ⟨g5, hg⟩ : ∃ g, w4.heap.size = g := ⟨_, rfl⟩
          rw [hg] at L hl5 ⊢
          clear hg
          have c00 := L.b0.c30
          have c01 := L.b0.c31
          have c02 := L.b0.c32
          have c10 := L.tl.b0.c30
          have c11 := L.tl.b0.c31
          have c12 := L.tl.b0.c32
          have c20 := L.tl.tl.b0.c30
          have c21 := L.tl.tl.b0.c31
          have c22 := L.tl.tl.b0.c32
          have c30 := L.tl.tl.tl.b0.c30
          have c31 := L.tl.tl.tl.b0.c31
          have c32 := L.tl.tl.tl.b0.c32
          have c40 := L.tl.tl.tl.tl.b0.c30
          have c41 := L.tl.tl.tl.tl.b0.c31
          have c42 := L.tl.tl.tl.tl.b0.c32
          have c50 := L.tl.tl.tl.tl.tl.b0.c30
          have c51 := L.tl.tl.tl.tl.tl.b0.c31
          have c52 := L.tl.tl.tl.tl.tl.b0.c32
          have c60 := L.tl.tl.tl.tl.tl.tl.b0.c30
          have c61 := L.tl.tl.tl.tl.tl.tl.b0.c31
          have c62 := L.tl.tl.tl.tl.tl.tl.b0.c32
          have c70 := L.tl.tl.tl.tl.tl.tl.tl.b0.c30
          have c71 := L.tl.tl.tl.tl.tl.tl.tl.b0.c31
          have c72 := L.tl.tl.tl.tl.tl.tl.tl.b0.c32
          go_wp2_with fail
          refine (HSG.out _ _ (L.getQ (by simp))).mono ?_
          rintro e w5 ⟨rfl, be⟩
          clear c00 c01 c02 c10 c11 c12 c20 c21 c22 c30 c31 c32 c40 c41 c42 c50 c51 c52 c60 c61 c62 c70 c71 c72
          replace L := L.step be
          clear be
          have c00 := L.b0.c30
          have c01 := L.b0.c31
          have c02 := L.b0.c32
          have c10 := L.tl.b0.c30
          have c11 := L.tl.b0.c31
          have c12 := L.tl.b0.c32
          have c20 := L.tl.tl.b0.c30
          have c21 := L.tl.tl.b0.c31
          have c22 := L.tl.tl.b0.c32
          have c30 := L.tl.tl.tl.b0.c30
          have c31 := L.tl.tl.tl.b0.c31
          have c32 := L.tl.tl.tl.b0.c32
          have c40 := L.tl.tl.tl.tl.b0.c30
          have c41 := L.tl.tl.tl.tl.b0.c31
          have c42 := L.tl.tl.tl.tl.b0.c32
          have c50 := L.tl.tl.tl.tl.tl.b0.c30
          have c51 := L.tl.tl.tl.tl.tl.b0.c31
          have c52 := L.tl.tl.tl.tl.tl.b0.c32
          have c60 := L.tl.tl.tl.tl.tl.tl.b0.c30
          have c61 := L.tl.tl.tl.tl.tl.tl.b0.c31
          have c62 := L.tl.tl.tl.tl.tl.tl.b0.c32
          have c70 := L.tl.tl.tl.tl.tl.tl.tl.b0.c30
          have c71 := L.tl.tl.tl.tl.tl.tl.tl.b0.c31
          have c72 := L.tl.tl.tl.tl.tl.tl.tl.b0.c32
          go_wp2_with fail
          clear c00 c01 c02 c10 c11 c12 c20 c21 c22 c30 c31 c32 c40 c41 c42 c50 c51 c52 c60 c61 c62 c70 c71 c72
          replace L := L.drew
          have c00 := L.b0.c30
          have c01 := L.b0.c31
          have c02 := L.b0.c32
          have c10 := L.tl.b0.c30
          have c11 := L.tl.b0.c31
          have c12 := L.tl.b0.c32
          have c20 := L.tl.tl.b0.c30
          have c21 := L.tl.tl.b0.c31
          have c22 := L.tl.tl.b0.c32
          have c30 := L.tl.tl.tl.b0.c30
          have c31 := L.tl.tl.tl.b0.c31
          have c32 := L.tl.tl.tl.b0.c32
          have c40 := L.tl.tl.tl.tl.b0.c30
          have c41 := L.tl.tl.tl.tl.b0.c31
          have c42 := L.tl.tl.tl.tl.b0.c32
          have c50 := L.tl.tl.tl.tl.tl.b0.c30
          have c51 := L.tl.tl.tl.tl.tl.b0.c31
          have c52 := L.tl.tl.tl.tl.tl.b0.c32
          have c60 := L.tl.tl.tl.tl.tl.tl.b0.c30
          have c61 := L.tl.tl.tl.tl.tl.tl.b0.c31
          have c62 := L.tl.tl.tl.tl.tl.tl.b0.c32
          have c70 := L.tl.tl.tl.tl.tl.tl.tl.b0.c30
          have c71 := L.tl.tl.tl.tl.tl.tl.tl.b0.c31
          have c72 := L.tl.tl.tl.tl.tl.tl.tl.b0.c32
          go_region_held3 (fun w' => w'.cell? ⟨g5, 0, none⟩ = some (.bool (ng n7)) ∧ w'.cell? ⟨g5, 1, none⟩ = some (.slice A5 (zl n7) c5) ∧ w'.cell? ⟨g5, 2, none⟩ = some (.slice B5 (len m7) d5) ∧ w'.cell? ⟨g + 1, 0, none⟩ = some (.bool (ng b)) ∧ w'.cell? ⟨g + 1, 1, none⟩ = some (.slice C (zl b) j) ∧ w'.cell? ⟨g + 1, 2, none⟩ = some (.slice D' (len e') k) ∧ w'.cell? ⟨g, 0, none⟩ = some (.bool (ng a)) ∧ w'.cell? ⟨g, 1, none⟩ = some (.slice A (zl a) c) ∧ w'.cell? ⟨g, 2, none⟩ = some (.slice B (len d) i)) (first | (with_reducible exact ⟨L.b0.c30, L.b0.c31, L.b0.c32, L.tl.tl.tl.b0.c30, L.tl.tl.tl.b0.c31, L.tl.tl.tl.b0.c32, L.tl.tl.tl.tl.b0.c30, L.tl.tl.tl.tl.b0.c31, L.tl.tl.tl.tl.b0.c32⟩) | exact ⟨L.b0.c30, L.b0.c31, L.b0.c32, L.tl.tl.tl.b0.c30, L.tl.tl.tl.b0.c31, L.tl.tl.tl.b0.c32, L.tl.tl.tl.tl.b0.c30, L.tl.tl.tl.tl.b0.c31, L.tl.tl.tl.tl.b0.c32⟩) (first | (go_at_call 23; (with_reducible refine (R10.out _ _ _ ?_ ?_ ).mono ?_); (· (refine L.getQ ?_; (repeat (first | (with_reducible exact List.mem_cons_self) | apply List.mem_cons_of_mem)))); (· (refine L.getQ ?_; (repeat (first | (with_reducible exact List.mem_cons_self) | apply List.mem_cons_of_mem)))); rintro e wh ⟨vh, rfl, iq, be⟩; replace L := (L.step be).q iq; clear be iq) | (go_at_call 15; (with_reducible refine (S2.out _ _ _ ?_ ?_ ).mono ?_); (· (refine L.getQ ?_; (repeat (first | (with_reducible exact List.mem_cons_self) | apply List.mem_cons_of_mem)))); (· (refine L.getQ ?_; (repeat (first | (with_reducible exact List.mem_cons_self) | apply List.mem_cons_of_mem)))); rintro e wh ⟨rfl, be⟩; replace L := L.step be; clear be))
          clear c00 c01 c02 c10 c11 c12 c20 c21 c22 c30 c31 c32 c40 c41 c42 c50 c51 c52 c60 c61 c62 c70 c71 c72
          go_wp2_with fail
          go_ret
          exact ⟨rfl, L.below⟩

end Go.Proofs.YtbndgggjfjdfbaaGreatDoor
