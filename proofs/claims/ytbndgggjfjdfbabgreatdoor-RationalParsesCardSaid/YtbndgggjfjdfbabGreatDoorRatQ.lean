/- The program's Sqrt, Size and Valid of fractions. -/
import Derived.Test.YtbndgggjfjdfbabGreatDoorRatP
import Derived.Test.YtbndgggjfjdfbabGreatDoorRefRatE
import Derived.Test.YtbndgggjfjdfbabGreatDoorRefRatV
import Derived.Deep.RegionHeld3
import Derived.Deep.DrawnRows
namespace Go.Proofs.YtbndgggjfjdfbabGreatDoor
open Go.RowKit
set_option linter.unusedVariables false
set_option linter.unusedSimpArgs false
set_option maxRecDepth 100000
attribute [local go_sem ↓] Go.wp_at_zero Go.wp_at_succ

theorem sqQ_len {x k : Nat} (h : len x ≤ k) : len (sqQ x) ≤ k := by
  refine Nat.le_trans (len_mono ?_) h
  unfold sqQ
  split
  · rename_i h; exact Nat.le_trans (Nat.le_mul_self _) (Nat.le_of_eq h)
  · exact Nat.zero_le _
theorem cmpI_nn {a : Int} (h : 0 ≤ a) : decide (cmpI a 0 < 0) = false := by
  rcases Int.lt_or_eq_of_le h with h | h
  · rw [cmpI_gt h]; rfl
  · rw [← h, cmpI_eq]; rfl
theorem blen_one (g : Nat) : ((((blen g : Nat) : Int)) == 1) = sameB g 1 := by
  unfold sameB
  rw [Bool.eq_iff_iff, beq_iff_eq, decide_eq_true_iff]
  constructor
  · intro h
    have h1 : blen g = 1 := by omega
    have h2 := lt_two_pow_blen g
    rw [h1] at h2
    rcases Nat.eq_zero_or_pos g with h0 | h0
    · rw [h0, blen_zero] at h1; omega
    · omega
  · intro h
    rw [h, blen_of (n := 0) (by omega) (by omega)]
    rfl

set_option maxHeartbeats 1000000 in
theorem psqrt_neg (a : Int) (d : Nat) (vx : Value) (w : World) (hx : IsP w vx a d) (la : zl a ≤ 10000) (ld : len d ≤ 10000) (h0 : a < 0) :
    Calls Tryz.prog 25 #[vx] w (RetPB w 0 0 false) := by
  have HS := Lib.hid (fun v W h => psign_any a d v W h (by omega))
  obtain ⟨A, c, B, g, rfl, _, hna, hnd⟩ := hx.form
  rw [cmpI_lt h0] at HS
  have L0 := (((Lq.mk0 w).q hx).n hna).n hnd
  clear hx hna hnd la ld h0
  go_enter Tryz.func25, Tryz.ntmps25
  go_wp2_with fail
  have L := ((L0.varQ (w.heap.size) (by simp) (ng a) A B (zl a) c (len d) g).varQ (w.heap.size + 1) (by simp) false none none 0 0 0 0)
  have c00 := L.b0.c30
  have f00 := L.b0.fr 0
  have c01 := L.b0.c31
  have f01 := L.b0.fr 1
  have c02 := L.b0.c32
  have f02 := L.b0.fr 2
  have c10 := L.tl.b0.c30
  have c11 := L.tl.b0.c31
  have c12 := L.tl.b0.c32
  refine (HS.out _ _ (L.getQ (by simp))).mono ?_
  rintro e w1 ⟨rfl, be⟩
  clear c00 f00 c01 f01 c02 f02 c10 c11 c12
  replace L := L.step be
  clear be
  have c00 := L.b0.c30
  have f00 := L.b0.fr 0
  have c01 := L.b0.c31
  have f01 := L.b0.fr 1
  have c02 := L.b0.c32
  have f02 := L.b0.fr 2
  have c10 := L.tl.b0.c30
  have c11 := L.tl.b0.c31
  have c12 := L.tl.b0.c32
  go_wp2_with fail
  have LP := L.putQ (by omega) (by simp) false none none 0 0 0 0
  have d0 := LP.b0.c30
  have d1 := LP.b0.c31
  have d2 := LP.b0.c32
  unfold put3 at d0 d1 d2
  exact bodyPost_ret (v := .tuple #[.agg #[.bool false, .slice none 0 0, .slice none 0 0], .bool false]) (by simp [results, Tryz.results25, go_sem, d0, d1, d2]) rfl ⟨_, rfl, isP_zero _, LP.below⟩
set_option maxHeartbeats 1000000 in
theorem psqrt_one (a : Int) (d : Nat) (vx : Value) (w : World) (hx : IsP w vx a d) (la : zl a ≤ 10000) (ld : len d ≤ 10000) (h0 : 0 ≤ a) (h1 : sqB a.natAbs = false) :
    Calls Tryz.prog 25 #[vx] w (RetPB w 0 0 false) := by
  have HS := Lib.hid (fun v W h => psign_any a d v W h (by omega))
  obtain ⟨A, c, B, g, rfl, _, hna, hnd⟩ := hx.form
  have hK := cmpI_nn h0
  generalize cmpI a 0 = K at *
  have L0 := (((Lq.mk0 w).q hx).n hna).n hnd
  have H1 := Lib.hid (fun v W h => squareRoot_any a.natAbs v W h la)
  rw [h1] at H1
  clear hx hna hnd la ld h0 h1
  generalize sqQ a.natAbs = p at *
  go_enter Tryz.func25, Tryz.ntmps25
  go_wp2_with fail
  have L := ((L0.varQ (w.heap.size) (by simp) (ng a) A B (zl a) c (len d) g).varQ (w.heap.size + 1) (by simp) false none none 0 0 0 0)
  have c00 := L.b0.c30
  have f00 := L.b0.fr 0
  have c01 := L.b0.c31
  have f01 := L.b0.fr 1
  have c02 := L.b0.c32
  have f02 := L.b0.fr 2
  have c10 := L.tl.b0.c30
  have c11 := L.tl.b0.c31
  have c12 := L.tl.b0.c32
  refine (HS.out _ _ (L.getQ (by simp))).mono ?_
  rintro e w1 ⟨rfl, be⟩
  clear c00 f00 c01 f01 c02 f02 c10 c11 c12
  replace L := L.step be
  clear be
  have c00 := L.b0.c30
  have f00 := L.b0.fr 0
  have c01 := L.b0.c31
  have f01 := L.b0.fr 1
  have c02 := L.b0.c32
  have f02 := L.b0.fr 2
  have c10 := L.tl.b0.c30
  have c11 := L.tl.b0.c31
  have c12 := L.tl.b0.c32
  go_wp2_with fail
  refine (H1.out _ _ (L.getN (by simp))).mono ?_
  rintro e w2 ⟨v1, rfl, o⟩
  clear c00 f00 c01 f01 c02 f02 c10 c11 c12
  replace L := (L.step o.below).n o.isN
  obtain ⟨A1, c1, rfl⟩ := o.isN.form
  clear o
  have c00 := L.b0.c30
  have f00 := L.b0.fr 0
  have c01 := L.b0.c31
  have f01 := L.b0.fr 1
  have c02 := L.b0.c32
  have f02 := L.b0.fr 2
  have c10 := L.tl.b0.c30
  have c11 := L.tl.b0.c31
  have c12 := L.tl.b0.c32
  go_wp2_with fail
  have LP := L.putQ (by omega) (by simp) false none none 0 0 0 0
  have d0 := LP.b0.c30
  have d1 := LP.b0.c31
  have d2 := LP.b0.c32
  unfold put3 at d0 d1 d2
  exact bodyPost_ret (v := .tuple #[.agg #[.bool false, .slice none 0 0, .slice none 0 0], .bool false]) (by simp [results, Tryz.results25, go_sem, d0, d1, d2]) rfl ⟨_, rfl, isP_zero _, LP.below⟩
set_option maxHeartbeats 1000000 in
theorem psqrt_two (a : Int) (d : Nat) (vx : Value) (w : World) (hx : IsP w vx a d) (la : zl a ≤ 10000) (ld : len d ≤ 10000) (h0 : 0 ≤ a) (h1 : sqB a.natAbs = true) (h2 : sqB d = false) :
    Calls Tryz.prog 25 #[vx] w (RetPB w 0 0 false) := by
  have HS := Lib.hid (fun v W h => psign_any a d v W h (by omega))
  obtain ⟨A, c, B, g, rfl, _, hna, hnd⟩ := hx.form
  have hK := cmpI_nn h0
  generalize cmpI a 0 = K at *
  have L0 := (((Lq.mk0 w).q hx).n hna).n hnd
  have H1 := Lib.hid (fun v W h => squareRoot_any a.natAbs v W h la)
  rw [h1] at H1
  have H2 := Lib.hid (fun v W h => squareRoot_any d v W h ld)
  rw [h2] at H2
  clear hx hna hnd la ld h0 h1 h2
  generalize sqQ a.natAbs = p at *
  generalize sqQ d = q at *
  go_enter Tryz.func25, Tryz.ntmps25
  go_wp2_with fail
  have L := ((L0.varQ (w.heap.size) (by simp) (ng a) A B (zl a) c (len d) g).varQ (w.heap.size + 1) (by simp) false none none 0 0 0 0)
  have c00 := L.b0.c30
  have f00 := L.b0.fr 0
  have c01 := L.b0.c31
  have f01 := L.b0.fr 1
  have c02 := L.b0.c32
  have f02 := L.b0.fr 2
  have c10 := L.tl.b0.c30
  have c11 := L.tl.b0.c31
  have c12 := L.tl.b0.c32
  refine (HS.out _ _ (L.getQ (by simp))).mono ?_
  rintro e w1 ⟨rfl, be⟩
  clear c00 f00 c01 f01 c02 f02 c10 c11 c12
  replace L := L.step be
  clear be
  have c00 := L.b0.c30
  have f00 := L.b0.fr 0
  have c01 := L.b0.c31
  have f01 := L.b0.fr 1
  have c02 := L.b0.c32
  have f02 := L.b0.fr 2
  have c10 := L.tl.b0.c30
  have c11 := L.tl.b0.c31
  have c12 := L.tl.b0.c32
  go_wp2_with fail
  refine (H1.out _ _ (L.getN (by simp))).mono ?_
  rintro e w2 ⟨v1, rfl, o⟩
  clear c00 f00 c01 f01 c02 f02 c10 c11 c12
  replace L := (L.step o.below).n o.isN
  obtain ⟨A1, c1, rfl⟩ := o.isN.form
  clear o
  have c00 := L.b0.c30
  have f00 := L.b0.fr 0
  have c01 := L.b0.c31
  have f01 := L.b0.fr 1
  have c02 := L.b0.c32
  have f02 := L.b0.fr 2
  have c10 := L.tl.b0.c30
  have c11 := L.tl.b0.c31
  have c12 := L.tl.b0.c32
  go_wp2_with fail
  refine (H2.out _ _ (L.getN (by simp))).mono ?_
  rintro e w3 ⟨v2, rfl, o⟩
  clear c00 f00 c01 f01 c02 f02 c10 c11 c12
  replace L := (L.step o.below).n o.isN
  obtain ⟨A2, c2, rfl⟩ := o.isN.form
  clear o
  have c00 := L.b0.c30
  have f00 := L.b0.fr 0
  have c01 := L.b0.c31
  have f01 := L.b0.fr 1
  have c02 := L.b0.c32
  have f02 := L.b0.fr 2
  have c10 := L.tl.b0.c30
  have c11 := L.tl.b0.c31
  have c12 := L.tl.b0.c32
  go_wp2_with fail
  have LP := L.putQ (by omega) (by simp) false none none 0 0 0 0
  have d0 := LP.b0.c30
  have d1 := LP.b0.c31
  have d2 := LP.b0.c32
  unfold put3 at d0 d1 d2
  exact bodyPost_ret (v := .tuple #[.agg #[.bool false, .slice none 0 0, .slice none 0 0], .bool false]) (by simp [results, Tryz.results25, go_sem, d0, d1, d2]) rfl ⟨_, rfl, isP_zero _, LP.below⟩
set_option maxHeartbeats 1000000 in
theorem psqrt_yes (a : Int) (d : Nat) (vx : Value) (w : World) (hx : IsP w vx a d) (la : zl a ≤ 10000) (ld : len d ≤ 10000) (h0 : 0 ≤ a) (h1 : sqB a.natAbs = true) (h2 : sqB d = true) :
    Calls Tryz.prog 25 #[vx] w (RetPB w ((sqQ a.natAbs : Nat) : Int) (sqQ d) true) := by
  have HS := Lib.hid (fun v W h => psign_any a d v W h (by omega))
  obtain ⟨A, c, B, g, rfl, _, hna, hnd⟩ := hx.form
  have hK := cmpI_nn h0
  generalize cmpI a 0 = K at *
  have L0 := (((Lq.mk0 w).q hx).n hna).n hnd
  have H1 := Lib.hid (fun v W h => squareRoot_any a.natAbs v W h la)
  rw [h1] at H1
  have H2 := Lib.hid (fun v W h => squareRoot_any d v W h ld)
  rw [h2] at H2
  have lr := sqQ_len (show len a.natAbs ≤ 10000 from la)
  have HN := Lib.hid (fun v W h => znatN_any false (sqQ a.natAbs) v W h (by omega))
  rw [show sg false (sqQ a.natAbs) = ((sqQ a.natAbs : Nat) : Int) from rfl] at HN
  clear lr
  clear hx hna hnd la ld h0 h1 h2
  generalize sqQ a.natAbs = p at *
  generalize sqQ d = q at *
  go_enter Tryz.func25, Tryz.ntmps25
  go_wp2_with fail
  have L := ((L0.varQ (w.heap.size) (by simp) (ng a) A B (zl a) c (len d) g).varQ (w.heap.size + 1) (by simp) false none none 0 0 0 0)
  have c00 := L.b0.c30
  have f00 := L.b0.fr 0
  have c01 := L.b0.c31
  have f01 := L.b0.fr 1
  have c02 := L.b0.c32
  have f02 := L.b0.fr 2
  have c10 := L.tl.b0.c30
  have c11 := L.tl.b0.c31
  have c12 := L.tl.b0.c32
  refine (HS.out _ _ (L.getQ (by simp))).mono ?_
  rintro e w1 ⟨rfl, be⟩
  clear c00 f00 c01 f01 c02 f02 c10 c11 c12
  replace L := L.step be
  clear be
  have c00 := L.b0.c30
  have f00 := L.b0.fr 0
  have c01 := L.b0.c31
  have f01 := L.b0.fr 1
  have c02 := L.b0.c32
  have f02 := L.b0.fr 2
  have c10 := L.tl.b0.c30
  have c11 := L.tl.b0.c31
  have c12 := L.tl.b0.c32
  go_wp2_with fail
  refine (H1.out _ _ (L.getN (by simp))).mono ?_
  rintro e w2 ⟨v1, rfl, o⟩
  clear c00 f00 c01 f01 c02 f02 c10 c11 c12
  replace L := (L.step o.below).n o.isN
  obtain ⟨A1, c1, rfl⟩ := o.isN.form
  clear o
  have c00 := L.b0.c30
  have f00 := L.b0.fr 0
  have c01 := L.b0.c31
  have f01 := L.b0.fr 1
  have c02 := L.b0.c32
  have f02 := L.b0.fr 2
  have c10 := L.tl.b0.c30
  have c11 := L.tl.b0.c31
  have c12 := L.tl.b0.c32
  go_wp2_with fail
  refine (H2.out _ _ (L.getN (by simp))).mono ?_
  rintro e w3 ⟨v2, rfl, o⟩
  clear c00 f00 c01 f01 c02 f02 c10 c11 c12
  replace L := (L.step o.below).n o.isN
  obtain ⟨A2, c2, rfl⟩ := o.isN.form
  clear o
  have c00 := L.b0.c30
  have f00 := L.b0.fr 0
  have c01 := L.b0.c31
  have f01 := L.b0.fr 1
  have c02 := L.b0.c32
  have f02 := L.b0.fr 2
  have c10 := L.tl.b0.c30
  have c11 := L.tl.b0.c31
  have c12 := L.tl.b0.c32
  go_wp2_with fail
  refine (HN.out _ _ (L.getN (by simp))).mono ?_
  rintro e w4 ⟨v3, rfl, iz, be⟩
  clear c00 f00 c01 f01 c02 f02 c10 c11 c12
  replace L := (L.step be).z iz
  obtain ⟨A3, c3, rfl, _⟩ := iz.form
  clear be iz
  have c00 := L.b0.c30
  have f00 := L.b0.fr 0
  have c01 := L.b0.c31
  have f01 := L.b0.fr 1
  have c02 := L.b0.c32
  have f02 := L.b0.fr 2
  have c10 := L.tl.b0.c30
  have c11 := L.tl.b0.c31
  have c12 := L.tl.b0.c32
  go_wp2_with fail
  have LP := L.putQ (by omega) (by first | (simp; done) | (simp; omega)) (ng ((p : Int))) A3 A2 (zl ((p : Int))) c3 (len (q)) c2
  have k0 := LP.b0.c30
  have k1 := LP.b0.c31
  have k2 := LP.b0.c32
  unfold put3 at k0 k1 k2
  exact bodyPost_ret (v := .tuple #[.agg #[.bool (ng ((p : Int))), .slice A3 (zl ((p : Int))) c3, .slice A2 (len (q)) c2], .bool true]) (by simp [results, Tryz.results25, go_sem, k0, k1, k2]) rfl ⟨_, rfl, isP_of LP.hz (LP.getN (by simp)), LP.below⟩
theorem psqrt_any (a : Int) (d : Nat) (vx : Value) (w : World) (hx : IsP w vx a d) (la : zl a ≤ 10000) (ld : len d ≤ 10000) :
    Calls Tryz.prog 25 #[vx] w (RetPB w (if sqP a d then (sqQ a.natAbs : Int) else 0) (if sqP a d then sqQ d else 0) (sqP a d)) := by
  by_cases h0 : a < 0
  · have e : sqP a d = false := by unfold sqP; rw [ng_yes h0]; rfl
    rw [e]; exact psqrt_neg a d vx w hx la ld h0
  · have h0' : 0 ≤ a := by omega
    cases h1 : sqB a.natAbs
    · have e : sqP a d = false := by unfold sqP; rw [ng_no h0', h1]; rfl
      rw [e]; exact psqrt_one a d vx w hx la ld h0' h1
    · cases h2 : sqB d
      · have e : sqP a d = false := by unfold sqP; rw [ng_no h0', h1, h2]; rfl
        rw [e]; exact psqrt_two a d vx w hx la ld h0' h1 h2
      · have e : sqP a d = true := by unfold sqP; rw [ng_no h0', h1, h2]; rfl
        rw [e]; exact psqrt_yes a d vx w hx la ld h0' h1 h2

end Go.Proofs.YtbndgggjfjdfbabGreatDoor
