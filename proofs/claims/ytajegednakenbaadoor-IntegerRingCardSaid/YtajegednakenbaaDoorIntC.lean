/- Walks: integer.Neg, Add, Sub, Mul. -/
import Derived.Test.YtajegednakenbaaDoorIntB
import Derived.Test.YtajegednakenbaaDoorIntMath
import Derived.Deep.RegionHeld3
import Derived.Deep.DrawnRows
namespace Go.Proofs.YtajegednakenbaaDoor
open Go.RowKit
set_option linter.unusedVariables false
set_option linter.unusedSimpArgs false
attribute [local go_sem ↓] Go.wp_at_zero Go.wp_at_succ

theorem znatN_any (b : Bool) (x : Nat) (s : Value) (w : World) (hs : IsN w s x) (hl : len x ≤ 1099511627776) :
    Calls Tryd.prog 10 #[.bool b, s] w (RetZ w (sg b x)) := by
  obtain ⟨A, n, c, rfl, hs⟩ := hs
  have := hs.len
  rw [length_dig] at this
  have := znat_any b _ A n c w hs (by omega)
  rwa [val_dig] at this

set_option maxHeartbeats 1000000 in
theorem zneg_any (x : Int) (vx : Value) (w : World) (hx : IsZ w vx x) (lx : zl x ≤ 274877906944) :
    Calls Tryd.prog 25 #[vx] w (RetZ w (-x)) := by
  obtain ⟨A, c, rfl, ix⟩ := hx.form
  have hlx := abs_le lx
  have L0 := (((Lz.mk0 w).n ix).z hx)
  clear hx ix
  have HA := Lib.hid (neg_sg x)
  generalize ng x = b at *
  go_enter Tryd.func25, Tryd.ntmps25
  go_wp2_with fail
  have L := ((L0.box (w.heap.size) (by simp) b A (zl x) c).box (w.heap.size + 1) (by simp) false none 0 0)
  refine (znatN_any (!b) x.natAbs _ _ (L.getN (by simp)) (by omega)).mono ?_
  rintro e w1 ⟨v1, rfl, iz, be⟩
  replace L := (L.step be).z iz
  obtain ⟨A3, c3, rfl, _⟩ := iz.form
  clear be iz
  have c00 := L.b0.c0
  have c01 := L.b0.c1
  have f00 := L.b0.fr 0
  have f01 := L.b0.fr 1
  have c10 := L.tl.b0.c0
  have c11 := L.tl.b0.c1
  go_wp2_with fail
  have LP := L.put (by omega) (by simp) (ng (sg (!b) x.natAbs)) (A3) (zl (sg (!b) x.natAbs)) (c3)
  have d0 := LP.b0.c0
  have d1 := LP.b0.c1
  unfold put2 at d0 d1
  exact bodyPost_ret (v := .agg #[.bool (ng (sg (!b) x.natAbs)), .slice (A3) (zl (sg (!b) x.natAbs)) (c3)]) (by simp [results, Tryd.results25, go_sem, d0, d1]) rfl ⟨_, rfl, HA.out ▸ LP.hz, LP.below⟩

set_option maxHeartbeats 2000000 in
theorem zadd_any (x y : Int) (vx vy : Value) (w : World) (hx : IsZ w vx x) (hy : IsZ w vy y) (lx : zl x ≤ 274877906944) (ly : zl y ≤ 274877906944) :
    Calls Tryd.prog 27 #[vx, vy] w (RetZ w (x + y)) := by
  obtain ⟨A, c, rfl, ix⟩ := hx.form
  obtain ⟨B, d, rfl, iy⟩ := hy.form
  have hlx := abs_le lx
  have hly := abs_le ly
  have L0 := (((((Lz.mk0 w).n iy).n ix).z hy).z hx)
  clear hx hy ix iy
  by_cases hs : ng x = ng y
  · have HA := Lib.hid (add_same hs)
    have hls := len_add x.natAbs y.natAbs
    rw [← hs] at L0 ⊢
    clear hs
    generalize ng x = b at *
    go_enter Tryd.func27, Tryd.ntmps27
    go_wp2_with fail
    have L := (((L0.box (w.heap.size) (by simp) b A (zl x) c).box (w.heap.size + 1) (by simp) b B (zl y) d).box (w.heap.size + 2) (by simp) false none 0 0)
    replace L := L.drew
    have c00 := L.b0.c0
    have c01 := L.b0.c1
    have f00 := L.b0.fr 0
    have f01 := L.b0.fr 1
    have c10 := L.tl.b0.c0
    have c11 := L.tl.b0.c1
    have c20 := L.tl.tl.b0.c0
    have c21 := L.tl.tl.b0.c1
    go_region_held3 (fun w' => w'.cell? ⟨w.heap.size, 0, none⟩ = some (.bool b) ∧ w'.cell? ⟨w.heap.size, 1, none⟩ = some (.slice A (zl x) c) ∧ w'.cell? ⟨w.heap.size + 1, 1, none⟩ = some (.slice B (zl y) d)) (first | (with_reducible exact ⟨L.tl.tl.b0.c0, L.tl.tl.b0.c1, L.tl.b0.c1⟩) | exact ⟨L.tl.tl.b0.c0, L.tl.tl.b0.c1, L.tl.b0.c1⟩ | (have LP := L.put (by omega) (by simp) (ng (sg b (x.natAbs + y.natAbs))) (A3) (zl (sg b (x.natAbs + y.natAbs))) (c3); exact ⟨LP.tl.tl.b0.c0, LP.tl.tl.b0.c1, LP.tl.b0.c1⟩)) (first | (go_at_call 53; refine (add_any x.natAbs y.natAbs _ _ _ (L.getN (by simp)) (L.getN (by simp)) (by omega) (by omega)).mono ?_; rintro e w2 ⟨v2, rfl, o⟩; replace L := (L.step o.below).n o.isN; clear o) | (go_at_call 40; refine (signed_any b _ _ _ L.hn (by omega)).mono ?_; rintro e w3 ⟨v3, rfl, iz, be⟩; replace L := (L.step be).z iz; obtain ⟨A3, c3, rfl, _⟩ := iz.form; clear be iz; have d30 := L.b0.c0; have d31 := L.b0.c1; have g30 := L.b0.fr 0; have g31 := L.b0.fr 1))
    clear c00 c01 f00 f01 c10 c11 c20 c21
    go_wp2_with fail
    have LP := L.put (by omega) (by simp) (ng (sg b (x.natAbs + y.natAbs))) (A3) (zl (sg b (x.natAbs + y.natAbs))) (c3)
    have d0 := LP.b0.c0
    have d1 := LP.b0.c1
    unfold put2 at d0 d1
    exact bodyPost_ret (v := .agg #[.bool (ng (sg b (x.natAbs + y.natAbs))), .slice (A3) (zl (sg b (x.natAbs + y.natAbs))) (c3)]) (by simp [results, Tryd.results27, go_sem, d0, d1]) rfl ⟨_, rfl, HA.out ▸ LP.hz, LP.below⟩
  · have hbb : (ng x == ng y) = false := by rw [beq_eq_false_iff_ne]; exact hs
    rcases Nat.lt_or_ge x.natAbs y.natAbs with hlt | hge
    · have HA := add_diff (Ne.symm hs) (Nat.le_of_lt hlt)
      rw [Int.add_comm y x] at HA
      replace HA := Lib.hid HA
      have HB := fun W h1 h2 => sub_any x.natAbs y.natAbs (.slice A (zl x) c) (.slice B (zl y) d) W h1 h2 (by omega)
      have HC := fun W h1 h2 => sub_any y.natAbs x.natAbs (.slice B (zl y) d) (.slice A (zl x) c) W h1 h2 (by omega)
      unfold RetSub at HB HC
      simp only [if_neg (Nat.not_le.2 hlt), decide_eq_false (Nat.not_le.2 hlt), if_pos (Nat.le_of_lt hlt), decide_eq_true (Nat.le_of_lt hlt)] at HB HC
      have hls := len_sub y.natAbs x.natAbs
      have HB2 := Lib.hid HB
      have HC2 := Lib.hid HC
      clear HB HC hs
      generalize ng x = b at *
      generalize ng y = b2 at *
      go_enter Tryd.func27, Tryd.ntmps27
      go_wp2_with fail
      have L := (((L0.box (w.heap.size) (by simp) b A (zl x) c).box (w.heap.size + 1) (by simp) b2 B (zl y) d).box (w.heap.size + 2) (by simp) false none 0 0)
      have c00 := L.b0.c0
      have c01 := L.b0.c1
      have f00 := L.b0.fr 0
      have f01 := L.b0.fr 1
      have c10 := L.tl.b0.c0
      have c11 := L.tl.b0.c1
      have c20 := L.tl.tl.b0.c0
      have c21 := L.tl.tl.b0.c1
      refine (HB2.out _ (L.getN (by simp)) (L.getN (by simp))).mono ?_
      rintro e w1 ⟨v1, rfl, o⟩
      clear c00 c01 f00 f01 c10 c11 c20 c21
      replace L := (L.step o.below).n o.isN
      clear o
      have c00 := L.b0.c0
      have c01 := L.b0.c1
      have f00 := L.b0.fr 0
      have f01 := L.b0.fr 1
      have c10 := L.tl.b0.c0
      have c11 := L.tl.b0.c1
      have c20 := L.tl.tl.b0.c0
      have c21 := L.tl.tl.b0.c1
      go_wp2_with fail
      refine (HC2.out _ (L.getN (by simp)) (L.getN (by simp))).mono ?_
      rintro e w2 ⟨v2, rfl, o⟩
      clear c00 c01 f00 f01 c10 c11 c20 c21
      replace L := (L.step o.below).n o.isN
      clear o
      have c00 := L.b0.c0
      have c01 := L.b0.c1
      have f00 := L.b0.fr 0
      have f01 := L.b0.fr 1
      have c10 := L.tl.b0.c0
      have c11 := L.tl.b0.c1
      have c20 := L.tl.tl.b0.c0
      have c21 := L.tl.tl.b0.c1
      go_wp2_with fail
      refine (signed_any b2 (y.natAbs - x.natAbs) _ _ L.hn (by omega)).mono ?_
      rintro e w3 ⟨v3, rfl, iz, be⟩
      clear c00 c01 f00 f01 c10 c11 c20 c21
      replace L := (L.step be).z iz
      obtain ⟨A3, c3, rfl, _⟩ := iz.form
      clear be iz
      have c00 := L.b0.c0
      have c01 := L.b0.c1
      have f00 := L.b0.fr 0
      have f01 := L.b0.fr 1
      have c10 := L.tl.b0.c0
      have c11 := L.tl.b0.c1
      have c20 := L.tl.tl.b0.c0
      have c21 := L.tl.tl.b0.c1
      go_wp2_with fail
      have LP := L.put (by omega) (by simp) (ng (sg b2 (y.natAbs - x.natAbs))) (A3) (zl (sg b2 (y.natAbs - x.natAbs))) (c3)
      have d0 := LP.b0.c0
      have d1 := LP.b0.c1
      unfold put2 at d0 d1
      exact bodyPost_ret (v := .agg #[.bool (ng (sg b2 (y.natAbs - x.natAbs))), .slice (A3) (zl (sg b2 (y.natAbs - x.natAbs))) (c3)]) (by simp [results, Tryd.results27, go_sem, d0, d1]) rfl ⟨_, rfl, HA.out ▸ LP.hz, LP.below⟩
    · have HA := Lib.hid (add_diff hs hge)
      have HB := fun W h1 h2 => sub_any x.natAbs y.natAbs (.slice A (zl x) c) (.slice B (zl y) d) W h1 h2 (by omega)
      have HC := fun W h1 h2 => sub_any y.natAbs x.natAbs (.slice B (zl y) d) (.slice A (zl x) c) W h1 h2 (by omega)
      unfold RetSub at HB HC
      simp only [if_pos hge, decide_eq_true hge] at HB HC
      have hls := len_sub x.natAbs y.natAbs
      have HB2 := Lib.hid HB
      have HC2 := Lib.hid HC
      clear HB HC hs
      generalize ng x = b at *
      generalize ng y = b2 at *
      go_enter Tryd.func27, Tryd.ntmps27
      go_wp2_with fail
      have L := (((L0.box (w.heap.size) (by simp) b A (zl x) c).box (w.heap.size + 1) (by simp) b2 B (zl y) d).box (w.heap.size + 2) (by simp) false none 0 0)
      have c00 := L.b0.c0
      have c01 := L.b0.c1
      have f00 := L.b0.fr 0
      have f01 := L.b0.fr 1
      have c10 := L.tl.b0.c0
      have c11 := L.tl.b0.c1
      have c20 := L.tl.tl.b0.c0
      have c21 := L.tl.tl.b0.c1
      refine (HB2.out _ (L.getN (by simp)) (L.getN (by simp))).mono ?_
      rintro e w1 ⟨v1, rfl, o⟩
      clear c00 c01 f00 f01 c10 c11 c20 c21
      replace L := (L.step o.below).n o.isN
      clear o
      have c00 := L.b0.c0
      have c01 := L.b0.c1
      have f00 := L.b0.fr 0
      have f01 := L.b0.fr 1
      have c10 := L.tl.b0.c0
      have c11 := L.tl.b0.c1
      have c20 := L.tl.tl.b0.c0
      have c21 := L.tl.tl.b0.c1
      go_wp2_with fail
      refine (signed_any b (x.natAbs - y.natAbs) _ _ L.hn (by omega)).mono ?_
      rintro e w2 ⟨v3, rfl, iz, be⟩
      clear c00 c01 f00 f01 c10 c11 c20 c21
      replace L := (L.step be).z iz
      obtain ⟨A3, c3, rfl, _⟩ := iz.form
      clear be iz
      have c00 := L.b0.c0
      have c01 := L.b0.c1
      have f00 := L.b0.fr 0
      have f01 := L.b0.fr 1
      have c10 := L.tl.b0.c0
      have c11 := L.tl.b0.c1
      have c20 := L.tl.tl.b0.c0
      have c21 := L.tl.tl.b0.c1
      go_wp2_with fail
      have LP := L.put (by omega) (by simp) (ng (sg b (x.natAbs - y.natAbs))) (A3) (zl (sg b (x.natAbs - y.natAbs))) (c3)
      have d0 := LP.b0.c0
      have d1 := LP.b0.c1
      unfold put2 at d0 d1
      exact bodyPost_ret (v := .agg #[.bool (ng (sg b (x.natAbs - y.natAbs))), .slice (A3) (zl (sg b (x.natAbs - y.natAbs))) (c3)]) (by simp [results, Tryd.results27, go_sem, d0, d1]) rfl ⟨_, rfl, HA.out ▸ LP.hz, LP.below⟩

set_option maxHeartbeats 1000000 in
theorem zsub_any (x y : Int) (vx vy : Value) (w : World) (hx : IsZ w vx x) (hy : IsZ w vy y) (lx : zl x ≤ 274877906944) (ly : zl y ≤ 274877906944) :
    Calls Tryd.prog 24 #[vx, vy] w (RetZ w (x - y)) := by
  obtain ⟨A, c, rfl, ix⟩ := hx.form
  obtain ⟨B, d, rfl, iy⟩ := hy.form
  have hlx := abs_le lx
  have hly := abs_le ly
  have L0 := (((((Lz.mk0 w).n iy).n ix).z hy).z hx)
  clear hx hy ix iy
  have HA := Lib.hid (show x + -y = x - y from Int.sub_eq_add_neg.symm)
  have hln := zl_neg y
  generalize hb1 : ng x = b at *
  generalize hb2 : ng y = b2 at *
  have HB1 := Lib.hid hb1
  have HB2 := Lib.hid hb2
  clear hb1 hb2
  go_enter Tryd.func24, Tryd.ntmps24
  go_wp2_with fail
  have L := (((L0.box (w.heap.size) (by simp) b A (zl x) c).box (w.heap.size + 1) (by simp) b2 B (zl y) d).box (w.heap.size + 2) (by simp) false none 0 0)
  replace L := L.drew
  have c00 := L.b0.c0
  have c01 := L.b0.c1
  have f00 := L.b0.fr 0
  have f01 := L.b0.fr 1
  have c10 := L.tl.b0.c0
  have c11 := L.tl.b0.c1
  have c20 := L.tl.tl.b0.c0
  have c21 := L.tl.tl.b0.c1
  obtain ⟨ny, hny⟩ : ∃ ny, -y = ny := ⟨_, rfl⟩
  have HN := Lib.hid (fun W (h : IsZ W (.agg #[.bool b2, .slice B (zl y) d]) y) => hny ▸ zneg_any y _ W h ly)
  rw [hny] at HA hln
  clear hny
  have hln2 : zl ny ≤ 274877906944 := by omega
  clear hln
  go_region_held3 (fun w' => w'.cell? ⟨w.heap.size, 0, none⟩ = some (.bool b) ∧ w'.cell? ⟨w.heap.size, 1, none⟩ = some (.slice A (zl x) c) ∧ w'.cell? ⟨w.heap.size + 1, 0, none⟩ = some (.bool b2) ∧ w'.cell? ⟨w.heap.size + 1, 1, none⟩ = some (.slice B (zl y) d)) (first | (with_reducible exact ⟨L.tl.tl.b0.c0, L.tl.tl.b0.c1, L.tl.b0.c0, L.tl.b0.c1⟩) | exact ⟨L.tl.tl.b0.c0, L.tl.tl.b0.c1, L.tl.b0.c0, L.tl.b0.c1⟩ | (have LP := L.put (by omega) (by simp) (ng (x + ny)) (A3) (zl (x + ny)) (c3); exact ⟨LP.tl.tl.b0.c0, LP.tl.tl.b0.c1, LP.tl.b0.c0, LP.tl.b0.c1⟩)) (first | (go_at_call 25; refine (HN.out _ (L.getZ (by simp))).mono ?_; rintro e w2 ⟨v2, rfl, iz, be⟩; replace L := (L.step be).z iz; clear iz be) | (go_at_call 27; refine (zadd_any x ny _ _ _ (L.getZ (by simp)) L.hz lx hln2).mono ?_; rintro e w3 ⟨v3, rfl, iz, be⟩; replace L := (L.step be).z iz; obtain ⟨A3, c3, rfl, _⟩ := iz.form; clear be iz; have d30 := L.b0.c0; have d31 := L.b0.c1; have g30 := L.b0.fr 0; have g31 := L.b0.fr 1))
  clear c00 c01 f00 f01 c10 c11 c20 c21
  go_wp2_with fail
  have LP := L.put (by omega) (by simp) (ng (x + ny)) (A3) (zl (x + ny)) (c3)
  have d0 := LP.b0.c0
  have d1 := LP.b0.c1
  unfold put2 at d0 d1
  exact bodyPost_ret (v := .agg #[.bool (ng (x + ny)), .slice (A3) (zl (x + ny)) (c3)]) (by simp [results, Tryd.results24, go_sem, d0, d1]) rfl ⟨_, rfl, HA.out ▸ LP.hz, LP.below⟩

set_option maxHeartbeats 1000000 in
theorem zmul_any (x y : Int) (vx vy : Value) (w : World) (hx : IsZ w vx x) (hy : IsZ w vy y) (lx : zl x ≤ 274877906944) (ly : zl y ≤ 274877906944) :
    Calls Tryd.prog 30 #[vx, vy] w (RetZ w (x * y)) := by
  obtain ⟨A, c, rfl, ix⟩ := hx.form
  obtain ⟨B, d, rfl, iy⟩ := hy.form
  have hlx := abs_le lx
  have hly := abs_le ly
  have L0 := (((((Lz.mk0 w).n iy).n ix).z hy).z hx)
  clear hx hy ix iy
  have HA := Lib.hid (show sg (!(ng x == ng y)) (x.natAbs * y.natAbs) = x * y from mul_sg x y)
  have hls := len_mul x.natAbs y.natAbs
  generalize ng x = b at *
  generalize ng y = b2 at *
  go_enter Tryd.func30, Tryd.ntmps30
  go_wp2_with fail
  have L := (((L0.box (w.heap.size) (by simp) b A (zl x) c).box (w.heap.size + 1) (by simp) b2 B (zl y) d).box (w.heap.size + 2) (by simp) false none 0 0)
  replace L := L.drew
  have c00 := L.b0.c0
  have c01 := L.b0.c1
  have f00 := L.b0.fr 0
  have f01 := L.b0.fr 1
  have c10 := L.tl.b0.c0
  have c11 := L.tl.b0.c1
  have c20 := L.tl.tl.b0.c0
  have c21 := L.tl.tl.b0.c1
  go_region_held3 (fun w' => w'.cell? ⟨w.heap.size, 0, none⟩ = some (.bool b) ∧ w'.cell? ⟨w.heap.size, 1, none⟩ = some (.slice A (zl x) c) ∧ w'.cell? ⟨w.heap.size + 1, 0, none⟩ = some (.bool b2) ∧ w'.cell? ⟨w.heap.size + 1, 1, none⟩ = some (.slice B (zl y) d)) (first | (with_reducible exact ⟨L.tl.tl.b0.c0, L.tl.tl.b0.c1, L.tl.b0.c0, L.tl.b0.c1⟩) | exact ⟨L.tl.tl.b0.c0, L.tl.tl.b0.c1, L.tl.b0.c0, L.tl.b0.c1⟩ | (have LP := L.put (by omega) (by simp) (ng (sg (!(b == b2)) (x.natAbs * y.natAbs))) (A3) (zl (sg (!(b == b2)) (x.natAbs * y.natAbs))) (c3); exact ⟨LP.tl.tl.b0.c0, LP.tl.tl.b0.c1, LP.tl.b0.c0, LP.tl.b0.c1⟩)) (first | (go_at_call 57; refine (mul_any x.natAbs y.natAbs _ _ _ (L.getN (by simp)) (L.getN (by simp)) (by omega) (by omega)).mono ?_; rintro e w2 ⟨v2, rfl, o⟩; replace L := (L.step o.below).n o.isN; clear o) | (go_at_call 40; refine (signed_any _ _ _ _ L.hn (by omega)).mono ?_; rintro e w3 ⟨v3, rfl, iz, be⟩; replace L := (L.step be).z iz; obtain ⟨A3, c3, rfl, _⟩ := iz.form; clear be iz; have d30 := L.b0.c0; have d31 := L.b0.c1; have g30 := L.b0.fr 0; have g31 := L.b0.fr 1))
  clear c00 c01 f00 f01 c10 c11 c20 c21
  go_wp2_with fail
  have LP := L.put (by omega) (by simp) (ng (sg (!(b == b2)) (x.natAbs * y.natAbs))) (A3) (zl (sg (!(b == b2)) (x.natAbs * y.natAbs))) (c3)
  have d0 := LP.b0.c0
  have d1 := LP.b0.c1
  unfold put2 at d0 d1
  exact bodyPost_ret (v := .agg #[.bool (ng (sg (!(b == b2)) (x.natAbs * y.natAbs))), .slice (A3) (zl (sg (!(b == b2)) (x.natAbs * y.natAbs))) (c3)]) (by simp [results, Tryd.results30, go_sem, d0, d1]) rfl ⟨_, rfl, HA.out ▸ LP.hz, LP.below⟩

end Go.Proofs.YtajegednakenbaaDoor
