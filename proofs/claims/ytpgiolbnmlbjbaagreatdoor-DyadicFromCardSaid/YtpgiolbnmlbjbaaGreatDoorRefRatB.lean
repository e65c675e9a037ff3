/- The reference's den, Sign, Neg, Add, Mul, Sub, Cmp, Div. -/
import Derived.Test.YtpgiolbnmlbjbaaGreatDoorRefRatA
import Derived.Deep.RegionHeld3
import Derived.Deep.DrawnRows
namespace Go.Proofs.YtpgiolbnmlbjbaaGreatDoor
open Go.RowKit
set_option linter.unusedVariables false
set_option linter.unusedSimpArgs false
set_option maxRecDepth 100000
attribute [local go_sem ↓] Go.wp_at_zero Go.wp_at_succ

set_option maxHeartbeats 1000000 in
theorem rden_any (a : Int) (d : Nat) (vx : Value) (w : World) (hx : IsP w vx a d) (ld : len d ≤ 100000000) :
    Calls Tryz.prog 80 #[vx] w (RetZ w (d : Int)) := by
  obtain ⟨A, c, B, g, rfl, _, _, hd⟩ := hx.form
  have HS := Lib.hid (fun W h => rznatN_any false d (.slice B (len d) g) W h (by omega))
  have L0 := (Lq.mk0 w).n hd
  clear hx hd
  go_enter Tryz.func80, Tryz.ntmps80
  go_wp2_with fail
  have L := ((L0.varQ (w.heap.size) (by simp) (ng a) A B (zl a) c (len d) g).varZ (w.heap.size + 1) (by simp) false none 0 0)
  have c00 := L.b0.c20
  have f00 := L.b0.fr 0
  have c01 := L.b0.c21
  have f01 := L.b0.fr 1
  have c10 := L.tl.b0.c30
  have c11 := L.tl.b0.c31
  have c12 := L.tl.b0.c32
  refine (HS.out _ (L.getN (by simp))).mono ?_
  rintro e w1 ⟨v, rfl, iz, be⟩
  clear c00 f00 c01 f01 c10 c11 c12
  replace L := (L.step be).z iz
  obtain ⟨A3, c3, rfl, _⟩ := iz.form
  clear be iz
  have c00 := L.b0.c20
  have f00 := L.b0.fr 0
  have c01 := L.b0.c21
  have f01 := L.b0.fr 1
  have c10 := L.tl.b0.c30
  have c11 := L.tl.b0.c31
  have c12 := L.tl.b0.c32
  go_wp2_with fail
  have LP := L.putZ (by omega) (by first | (simp; done) | (simp; omega)) (ng (sg false d)) A3 (zl (sg false d)) c3
  have k0 := LP.b0.c20
  have k1 := LP.b0.c21
  unfold put2 at k0 k1
  exact bodyPost_ret (v := .agg #[.bool (ng (sg false d)), .slice A3 (zl (sg false d)) c3]) (by simp [results, Tryz.results80, go_sem, k0, k1]) rfl ⟨_, rfl, LP.hz, LP.below⟩
set_option maxHeartbeats 4000000 in
theorem radd7_any (a : Int) (d : Nat) (b : Int) (e : Nat) (vx vy : Value) (w : World) (hx : IsP w vx a d) (hy : IsP w vy b e) (la : zl a ≤ 1000000) (ld : len d ≤ 1000000) (lb : zl b ≤ 1000000) (le : len e ≤ 1000000) (hd0 : 0 < d) (he0 : 0 < e) :
    Calls Tryz.prog 28 #[vx, vy] w (RetQ w (Rat.divInt (a * (e : Int) + b * (d : Int)) ((d : Int) * (e : Int)))) := by
  obtain ⟨A, c, B, g, rfl, hza, _, _⟩ := hx.form
  obtain ⟨C, i, D, k, rfl, hzb, _, _⟩ := hy.form
  have L0 := ((((Lq.mk0 w).q hx).q hy).z hza).z hzb
  clear hx hy hza hzb
  have HX := Lib.hid (fun v W h => rden_any a d v W h (by omega))
  have HY := Lib.hid (fun v W h => rden_any b e v W h (by omega))
  have ld' : zl (d : Int) ≤ 1000000 := ld
  have le' : zl (e : Int) ≤ 1000000 := le
  have l1 := zl_mul a (e : Int)
  have l2 := zl_mul b (d : Int)
  have l3 := zl_mul (d : Int) (e : Int)
  have l4 := zl_add (a * (e : Int)) (b * (d : Int))
  have h0 : (d : Int) * (e : Int) ≠ 0 := Int.mul_ne_zero (by omega) (by omega)
  have H1 := Lib.hid (fun v u W h1 h2 => rzmul_any a (e : Int) v u W h1 h2 (by omega) (by omega))
  have H2 := Lib.hid (fun v u W h1 h2 => rzmul_any b (d : Int) v u W h1 h2 (by omega) (by omega))
  have H3 := Lib.hid (fun v u W h1 h2 => rzmul_any (d : Int) (e : Int) v u W h1 h2 (by omega) (by omega))
  have H4 := Lib.hid (fun v u W h1 h2 => rzadd_any (a * (e : Int)) (b * (d : Int)) v u W h1 h2 (by omega) (by omega))
  have h5 := fun v u W h1 h2 => rof7_any (a * (e : Int) + b * (d : Int)) ((d : Int) * (e : Int)) v u W h1 h2 (by omega) (by omega) h0
  unfold RetQ at h5 ⊢
  have H5 := Lib.hid h5
  generalize (Rat.divInt (a * (e : Int) + b * (d : Int)) ((d : Int) * (e : Int))).num = rn at *
  generalize (Rat.divInt (a * (e : Int) + b * (d : Int)) ((d : Int) * (e : Int))).den = rd at *
  clear h5 h0 l1 l2 l3 l4 ld' le' la ld lb le hd0 he0
  generalize a * (e : Int) + b * (d : Int) = p0 at *
  generalize a * (e : Int) = p1 at *
  generalize b * (d : Int) = p2 at *
  generalize (d : Int) * (e : Int) = p3 at *
  go_enter Tryz.func28, Tryz.ntmps28
  go_wp2_with fail
  have L := (((L0.varQ (w.heap.size) (by simp) (ng a) A B (zl a) c (len d) g).varQ (w.heap.size + 1) (by simp) (ng b) C D (zl b) i (len e) k).varQ (w.heap.size + 2) (by simp) false none none 0 0 0 0)
  replace L := L.drew
  have c00 := L.b0.c30
  have f00 := L.b0.fr 0
  have c01 := L.b0.c31
  have f01 := L.b0.fr 1
  have c02 := L.b0.c32
  have f02 := L.b0.fr 2
  have c10 := L.tl.b0.c30
  have c11 := L.tl.b0.c31
  have c12 := L.tl.b0.c32
  have c20 := L.tl.tl.b0.c30
  have c21 := L.tl.tl.b0.c31
  have c22 := L.tl.tl.b0.c32
  go_region_held3 (fun w' => w'.cell? ⟨w.heap.size, 0, none⟩ = some (.bool (ng a)) ∧ w'.cell? ⟨w.heap.size, 1, none⟩ = some (.slice A (zl a) c) ∧ w'.cell? ⟨w.heap.size, 2, none⟩ = some (.slice B (len d) g) ∧ w'.cell? ⟨w.heap.size + 1, 0, none⟩ = some (.bool (ng b)) ∧ w'.cell? ⟨w.heap.size + 1, 1, none⟩ = some (.slice C (zl b) i) ∧ w'.cell? ⟨w.heap.size + 1, 2, none⟩ = some (.slice D (len e) k)) (first | (with_reducible exact ⟨L.tl.tl.b0.c30, L.tl.tl.b0.c31, L.tl.tl.b0.c32, L.tl.b0.c30, L.tl.b0.c31, L.tl.b0.c32⟩) | exact ⟨L.tl.tl.b0.c30, L.tl.tl.b0.c31, L.tl.tl.b0.c32, L.tl.b0.c30, L.tl.b0.c31, L.tl.b0.c32⟩ | (have LP := L.putQ (by omega) (by first | (simp; done) | (simp; omega)) (ng rn) A9 B9 (zl rn) c9 (len rd) d9; exact ⟨LP.tl.tl.b0.c30, LP.tl.tl.b0.c31, LP.tl.tl.b0.c32, LP.tl.b0.c30, LP.tl.b0.c31, LP.tl.b0.c32⟩)) (first | (go_at_call 80; (with_reducible refine (HX.out _ _ ?_ ).mono ?_); (· (refine L.getQ ?_; (repeat (first | (with_reducible exact List.mem_cons_self) | apply List.mem_cons_of_mem)))); rintro e wh ⟨vh, rfl, iz, be⟩; replace L := (L.step be).z iz; clear be iz) | (go_at_call 80; (with_reducible refine (HY.out _ _ ?_ ).mono ?_); (· (refine L.getQ ?_; (repeat (first | (with_reducible exact List.mem_cons_self) | apply List.mem_cons_of_mem)))); rintro e wh ⟨vh, rfl, iz, be⟩; replace L := (L.step be).z iz; clear be iz) | (go_at_call 79; (with_reducible refine (H1.out _ _ _ ?_ ?_ ).mono ?_); (· (refine L.getZ ?_; (repeat (first | (with_reducible exact List.mem_cons_self) | apply List.mem_cons_of_mem)))); (· (refine L.getZ ?_; (repeat (first | (with_reducible exact List.mem_cons_self) | apply List.mem_cons_of_mem)))); rintro e wh ⟨vh, rfl, iz, be⟩; replace L := (L.step be).z iz; clear be iz) | (go_at_call 79; (with_reducible refine (H2.out _ _ _ ?_ ?_ ).mono ?_); (· (refine L.getZ ?_; (repeat (first | (with_reducible exact List.mem_cons_self) | apply List.mem_cons_of_mem)))); (· (refine L.getZ ?_; (repeat (first | (with_reducible exact List.mem_cons_self) | apply List.mem_cons_of_mem)))); rintro e wh ⟨vh, rfl, iz, be⟩; replace L := (L.step be).z iz; clear be iz) | (go_at_call 79; (with_reducible refine (H3.out _ _ _ ?_ ?_ ).mono ?_); (· (refine L.getZ ?_; (repeat (first | (with_reducible exact List.mem_cons_self) | apply List.mem_cons_of_mem)))); (· (refine L.getZ ?_; (repeat (first | (with_reducible exact List.mem_cons_self) | apply List.mem_cons_of_mem)))); rintro e wh ⟨vh, rfl, iz, be⟩; replace L := (L.step be).z iz; clear be iz) | (go_at_call 78; (with_reducible refine (H4.out _ _ _ ?_ ?_ ).mono ?_); (· (refine L.getZ ?_; (repeat (first | (with_reducible exact List.mem_cons_self) | apply List.mem_cons_of_mem)))); (· (refine L.getZ ?_; (repeat (first | (with_reducible exact List.mem_cons_self) | apply List.mem_cons_of_mem)))); rintro e wh ⟨vh, rfl, iz, be⟩; replace L := (L.step be).z iz; clear be iz) | (go_at_call 77; (with_reducible refine (H5.out _ _ _ ?_ ?_ ).mono ?_); (· (refine L.getZ ?_; (repeat (first | (with_reducible exact List.mem_cons_self) | apply List.mem_cons_of_mem)))); (· (refine L.getZ ?_; (repeat (first | (with_reducible exact List.mem_cons_self) | apply List.mem_cons_of_mem)))); rintro e wh ⟨vh, rfl, iq, be⟩; replace L := (L.step be).q iq; obtain ⟨A9, c9, B9, d9, rfl, _, _, _⟩ := iq.form; clear be iq; (try (have x00 := L.b0.c30; have x01 := L.b0.c31; have x02 := L.b0.c32; have y00 := L.b0.fr 0; have y01 := L.b0.fr 1; have y02 := L.b0.fr 2))))
  clear c00 f00 c01 f01 c02 f02 c10 c11 c12 c20 c21 c22
  go_wp2_with fail
  have LP := L.putQ (by omega) (by first | (simp; done) | (simp; omega)) (ng (rn)) A9 B9 (zl (rn)) c9 (len (rd)) d9
  have k0 := LP.b0.c30
  have k1 := LP.b0.c31
  have k2 := LP.b0.c32
  unfold put3 at k0 k1 k2
  exact bodyPost_ret (v := .agg #[.bool (ng (rn)), .slice A9 (zl (rn)) c9, .slice B9 (len (rd)) d9]) (by simp [results, Tryz.results28, go_sem, k0, k1, k2]) rfl ⟨_, rfl, LP.hq, LP.below⟩
set_option maxHeartbeats 4000000 in
theorem rmul7_any (a : Int) (d : Nat) (b : Int) (e : Nat) (vx vy : Value) (w : World) (hx : IsP w vx a d) (hy : IsP w vy b e) (la : zl a ≤ 1000000) (ld : len d ≤ 1000000) (lb : zl b ≤ 1000000) (le : len e ≤ 1000000) (hd0 : 0 < d) (he0 : 0 < e) :
    Calls Tryz.prog 30 #[vx, vy] w (RetQ w (Rat.divInt (a * b) ((d : Int) * (e : Int)))) := by
  obtain ⟨A, c, B, g, rfl, hza, _, _⟩ := hx.form
  obtain ⟨C, i, D, k, rfl, hzb, _, _⟩ := hy.form
  have L0 := ((((Lq.mk0 w).q hx).q hy).z hza).z hzb
  clear hx hy hza hzb
  have HX := Lib.hid (fun v W h => rden_any a d v W h (by omega))
  have HY := Lib.hid (fun v W h => rden_any b e v W h (by omega))
  have ld' : zl (d : Int) ≤ 1000000 := ld
  have le' : zl (e : Int) ≤ 1000000 := le
  have l1 := zl_mul a b
  have l3 := zl_mul (d : Int) (e : Int)
  have h0 : (d : Int) * (e : Int) ≠ 0 := Int.mul_ne_zero (by omega) (by omega)
  have H1 := Lib.hid (fun v u W h1 h2 => rzmul_any a b v u W h1 h2 (by omega) (by omega))
  have H3 := Lib.hid (fun v u W h1 h2 => rzmul_any (d : Int) (e : Int) v u W h1 h2 (by omega) (by omega))
  have h5 := fun v u W h1 h2 => rof7_any (a * b) ((d : Int) * (e : Int)) v u W h1 h2 (by omega) (by omega) h0
  unfold RetQ at h5 ⊢
  have H5 := Lib.hid h5
  generalize (Rat.divInt (a * b) ((d : Int) * (e : Int))).num = rn at *
  generalize (Rat.divInt (a * b) ((d : Int) * (e : Int))).den = rd at *
  clear h5 h0 l1 l3 ld' le' la ld lb le hd0 he0
  generalize a * b = p1 at *
  generalize (d : Int) * (e : Int) = p3 at *
  go_enter Tryz.func30, Tryz.ntmps30
  go_wp2_with fail
  have L := (((L0.varQ (w.heap.size) (by simp) (ng a) A B (zl a) c (len d) g).varQ (w.heap.size + 1) (by simp) (ng b) C D (zl b) i (len e) k).varQ (w.heap.size + 2) (by simp) false none none 0 0 0 0)
  replace L := L.drew
  have c00 := L.b0.c30
  have f00 := L.b0.fr 0
  have c01 := L.b0.c31
  have f01 := L.b0.fr 1
  have c02 := L.b0.c32
  have f02 := L.b0.fr 2
  have c10 := L.tl.b0.c30
  have c11 := L.tl.b0.c31
  have c12 := L.tl.b0.c32
  have c20 := L.tl.tl.b0.c30
  have c21 := L.tl.tl.b0.c31
  have c22 := L.tl.tl.b0.c32
  go_region_held3 (fun w' => w'.cell? ⟨w.heap.size, 0, none⟩ = some (.bool (ng a)) ∧ w'.cell? ⟨w.heap.size, 1, none⟩ = some (.slice A (zl a) c) ∧ w'.cell? ⟨w.heap.size, 2, none⟩ = some (.slice B (len d) g) ∧ w'.cell? ⟨w.heap.size + 1, 0, none⟩ = some (.bool (ng b)) ∧ w'.cell? ⟨w.heap.size + 1, 1, none⟩ = some (.slice C (zl b) i) ∧ w'.cell? ⟨w.heap.size + 1, 2, none⟩ = some (.slice D (len e) k)) (first | (with_reducible exact ⟨L.tl.tl.b0.c30, L.tl.tl.b0.c31, L.tl.tl.b0.c32, L.tl.b0.c30, L.tl.b0.c31, L.tl.b0.c32⟩) | exact ⟨L.tl.tl.b0.c30, L.tl.tl.b0.c31, L.tl.tl.b0.c32, L.tl.b0.c30, L.tl.b0.c31, L.tl.b0.c32⟩ | (have LP := L.putQ (by omega) (by first | (simp; done) | (simp; omega)) (ng rn) A9 B9 (zl rn) c9 (len rd) d9; exact ⟨LP.tl.tl.b0.c30, LP.tl.tl.b0.c31, LP.tl.tl.b0.c32, LP.tl.b0.c30, LP.tl.b0.c31, LP.tl.b0.c32⟩)) (first | (go_at_call 80; (with_reducible refine (HX.out _ _ ?_ ).mono ?_); (· (refine L.getQ ?_; (repeat (first | (with_reducible exact List.mem_cons_self) | apply List.mem_cons_of_mem)))); rintro e wh ⟨vh, rfl, iz, be⟩; replace L := (L.step be).z iz; clear be iz) | (go_at_call 80; (with_reducible refine (HY.out _ _ ?_ ).mono ?_); (· (refine L.getQ ?_; (repeat (first | (with_reducible exact List.mem_cons_self) | apply List.mem_cons_of_mem)))); rintro e wh ⟨vh, rfl, iz, be⟩; replace L := (L.step be).z iz; clear be iz) | (go_at_call 79; (with_reducible refine (H1.out _ _ _ ?_ ?_ ).mono ?_); (· (refine L.getZ ?_; (repeat (first | (with_reducible exact List.mem_cons_self) | apply List.mem_cons_of_mem)))); (· (refine L.getZ ?_; (repeat (first | (with_reducible exact List.mem_cons_self) | apply List.mem_cons_of_mem)))); rintro e wh ⟨vh, rfl, iz, be⟩; replace L := (L.step be).z iz; clear be iz) | (go_at_call 79; (with_reducible refine (H3.out _ _ _ ?_ ?_ ).mono ?_); (· (refine L.getZ ?_; (repeat (first | (with_reducible exact List.mem_cons_self) | apply List.mem_cons_of_mem)))); (· (refine L.getZ ?_; (repeat (first | (with_reducible exact List.mem_cons_self) | apply List.mem_cons_of_mem)))); rintro e wh ⟨vh, rfl, iz, be⟩; replace L := (L.step be).z iz; clear be iz) | (go_at_call 77; (with_reducible refine (H5.out _ _ _ ?_ ?_ ).mono ?_); (· (refine L.getZ ?_; (repeat (first | (with_reducible exact List.mem_cons_self) | apply List.mem_cons_of_mem)))); (· (refine L.getZ ?_; (repeat (first | (with_reducible exact List.mem_cons_self) | apply List.mem_cons_of_mem)))); rintro e wh ⟨vh, rfl, iq, be⟩; replace L := (L.step be).q iq; obtain ⟨A9, c9, B9, d9, rfl, _, _, _⟩ := iq.form; clear be iq; (try (have x00 := L.b0.c30; have x01 := L.b0.c31; have x02 := L.b0.c32; have y00 := L.b0.fr 0; have y01 := L.b0.fr 1; have y02 := L.b0.fr 2))))
  clear c00 f00 c01 f01 c02 f02 c10 c11 c12 c20 c21 c22
  go_wp2_with fail
  have LP := L.putQ (by omega) (by first | (simp; done) | (simp; omega)) (ng (rn)) A9 B9 (zl (rn)) c9 (len (rd)) d9
  have k0 := LP.b0.c30
  have k1 := LP.b0.c31
  have k2 := LP.b0.c32
  unfold put3 at k0 k1 k2
  exact bodyPost_ret (v := .agg #[.bool (ng (rn)), .slice A9 (zl (rn)) c9, .slice B9 (len (rd)) d9]) (by simp [results, Tryz.results30, go_sem, k0, k1, k2]) rfl ⟨_, rfl, LP.hq, LP.below⟩
set_option maxHeartbeats 2000000 in
theorem rneg7_any (a : Int) (d : Nat) (vx : Value) (w : World) (hx : IsP w vx a d) (la : zl a ≤ 100000000) :
    Calls Tryz.prog 81 #[vx] w (RetP w (-a) d) := by
  obtain ⟨A, c, B, g, rfl, hz, _, hd⟩ := hx.form
  have h1 := fun v W h => rzneg_any a v W h (by omega)
  have L0 := ((Lq.mk0 w).z hz).n hd
  obtain ⟨na, hna⟩ : ∃ na, -a = na := ⟨_, rfl⟩
  rw [hna] at h1 ⊢
  have H1 := Lib.hid h1
  clear hx hz hd h1 hna
  go_enter Tryz.func81, Tryz.ntmps81
  go_wp2_with fail
  have L := ((L0.varQ (w.heap.size) (by simp) (ng a) A B (zl a) c (len d) g).varQ (w.heap.size + 1) (by simp) false none none 0 0 0 0)
  replace L := L.drew
  have c00 := L.b0.c30
  have f00 := L.b0.fr 0
  have c01 := L.b0.c31
  have f01 := L.b0.fr 1
  have c02 := L.b0.c32
  have f02 := L.b0.fr 2
  have c10 := L.tl.b0.c30
  have c11 := L.tl.b0.c31
  have c12 := L.tl.b0.c32
  go_region_held3 (fun w' => w'.cell? ⟨w.heap.size, 0, none⟩ = some (.bool (ng a)) ∧ w'.cell? ⟨w.heap.size, 1, none⟩ = some (.slice A (zl a) c) ∧ w'.cell? ⟨w.heap.size, 2, none⟩ = some (.slice B (len d) g)) (first | (with_reducible exact ⟨L.tl.b0.c30, L.tl.b0.c31, L.tl.b0.c32⟩) | exact ⟨L.tl.b0.c30, L.tl.b0.c31, L.tl.b0.c32⟩ | (have LP := L.putQ (by omega) (by first | (simp; done) | (simp; omega)) (ng na) A9 B (zl na) c9 (len d) g; exact ⟨LP.tl.b0.c30, LP.tl.b0.c31, LP.tl.b0.c32⟩)) (first | (go_at_call 83; (with_reducible refine (H1.out _ _ ?_ ).mono ?_); (· (refine L.getZ ?_; (repeat (first | (with_reducible exact List.mem_cons_self) | apply List.mem_cons_of_mem)))); rintro e wh ⟨vh, rfl, iz, be⟩; replace L := (L.step be).z iz; obtain ⟨A9, c9, rfl, _⟩ := iz.form; clear be iz; (try (have x00 := L.b0.c30; have x01 := L.b0.c31; have x02 := L.b0.c32; have y00 := L.b0.fr 0; have y01 := L.b0.fr 1; have y02 := L.b0.fr 2))))
  clear c00 f00 c01 f01 c02 f02 c10 c11 c12
  go_wp2_with fail
  have LP := L.putQ (by omega) (by first | (simp; done) | (simp; omega)) (ng (na)) A9 B (zl (na)) c9 (len (d)) g
  have k0 := LP.b0.c30
  have k1 := LP.b0.c31
  have k2 := LP.b0.c32
  unfold put3 at k0 k1 k2
  exact bodyPost_ret (v := .agg #[.bool (ng (na)), .slice A9 (zl (na)) c9, .slice B (len (d)) g]) (by simp [results, Tryz.results81, go_sem, k0, k1, k2]) rfl ⟨_, rfl, isP_of LP.hz (LP.getN (by simp)), LP.below⟩
set_option maxHeartbeats 2000000 in
theorem rsub7_any (a : Int) (d : Nat) (b : Int) (e : Nat) (vx vy : Value) (w : World) (hx : IsP w vx a d) (hy : IsP w vy b e) (la : zl a ≤ 1000000) (ld : len d ≤ 1000000) (lb : zl b ≤ 1000000) (le : len e ≤ 1000000) (hd0 : 0 < d) (he0 : 0 < e) :
    Calls Tryz.prog 29 #[vx, vy] w (RetQ w (Rat.divInt (a * (e : Int) + -b * (d : Int)) ((d : Int) * (e : Int)))) := by
  obtain ⟨A, c, B, g, rfl, hza, _, _⟩ := hx.form
  obtain ⟨C, i, D, k, rfl, hzb, _, _⟩ := hy.form
  have L0 := ((((Lq.mk0 w).q hx).q hy).z hza).z hzb
  clear hx hy hza hzb
  have hln := zl_neg b
  have h1 := fun v W h => rneg7_any b e v W h (by omega)
  have h2 := fun v u W k1 k2 => radd7_any a d (-b) e v u W k1 k2 la ld (by omega) le hd0 he0
  obtain ⟨nb, hnb⟩ : ∃ nb, -b = nb := ⟨_, rfl⟩
  rw [hnb] at h1 h2 ⊢
  unfold RetQ at h2 ⊢
  have H1 := Lib.hid h1
  have H2 := Lib.hid h2
  clear h1 h2 hln hnb la ld lb le hd0 he0
  generalize (Rat.divInt (a * (e : Int) + nb * (d : Int)) ((d : Int) * (e : Int))).num = rn at *
  generalize (Rat.divInt (a * (e : Int) + nb * (d : Int)) ((d : Int) * (e : Int))).den = rd at *
  go_enter Tryz.func29, Tryz.ntmps29
  go_wp2_with fail
  have L := (((L0.varQ (w.heap.size) (by simp) (ng a) A B (zl a) c (len d) g).varQ (w.heap.size + 1) (by simp) (ng b) C D (zl b) i (len e) k).varQ (w.heap.size + 2) (by simp) false none none 0 0 0 0)
  replace L := L.drew
  have c00 := L.b0.c30
  have f00 := L.b0.fr 0
  have c01 := L.b0.c31
  have f01 := L.b0.fr 1
  have c02 := L.b0.c32
  have f02 := L.b0.fr 2
  have c10 := L.tl.b0.c30
  have c11 := L.tl.b0.c31
  have c12 := L.tl.b0.c32
  have c20 := L.tl.tl.b0.c30
  have c21 := L.tl.tl.b0.c31
  have c22 := L.tl.tl.b0.c32
  go_region_held3 (fun w' => w'.cell? ⟨w.heap.size, 0, none⟩ = some (.bool (ng a)) ∧ w'.cell? ⟨w.heap.size, 1, none⟩ = some (.slice A (zl a) c) ∧ w'.cell? ⟨w.heap.size, 2, none⟩ = some (.slice B (len d) g) ∧ w'.cell? ⟨w.heap.size + 1, 0, none⟩ = some (.bool (ng b)) ∧ w'.cell? ⟨w.heap.size + 1, 1, none⟩ = some (.slice C (zl b) i) ∧ w'.cell? ⟨w.heap.size + 1, 2, none⟩ = some (.slice D (len e) k)) (first | (with_reducible exact ⟨L.tl.tl.b0.c30, L.tl.tl.b0.c31, L.tl.tl.b0.c32, L.tl.b0.c30, L.tl.b0.c31, L.tl.b0.c32⟩) | exact ⟨L.tl.tl.b0.c30, L.tl.tl.b0.c31, L.tl.tl.b0.c32, L.tl.b0.c30, L.tl.b0.c31, L.tl.b0.c32⟩ | (have LP := L.putQ (by omega) (by first | (simp; done) | (simp; omega)) (ng rn) A9 B9 (zl rn) c9 (len rd) d9; exact ⟨LP.tl.tl.b0.c30, LP.tl.tl.b0.c31, LP.tl.tl.b0.c32, LP.tl.b0.c30, LP.tl.b0.c31, LP.tl.b0.c32⟩)) (first | (go_at_call 81; (with_reducible refine (H1.out _ _ ?_ ).mono ?_); (· (refine L.getQ ?_; (repeat (first | (with_reducible exact List.mem_cons_self) | apply List.mem_cons_of_mem)))); rintro e wh ⟨vh, rfl, iq, be⟩; replace L := (L.step be).q iq; clear be iq) | (go_at_call 28; (with_reducible refine (H2.out _ _ _ ?_ ?_ ).mono ?_); (· (refine L.getQ ?_; (repeat (first | (with_reducible exact List.mem_cons_self) | apply List.mem_cons_of_mem)))); (· (refine L.getQ ?_; (repeat (first | (with_reducible exact List.mem_cons_self) | apply List.mem_cons_of_mem)))); rintro e wh ⟨vh, rfl, iq, be⟩; replace L := (L.step be).q iq; obtain ⟨A9, c9, B9, d9, rfl, _, _, _⟩ := iq.form; clear be iq; (try (have x00 := L.b0.c30; have x01 := L.b0.c31; have x02 := L.b0.c32; have y00 := L.b0.fr 0; have y01 := L.b0.fr 1; have y02 := L.b0.fr 2))))
  clear c00 f00 c01 f01 c02 f02 c10 c11 c12 c20 c21 c22
  go_wp2_with fail
  have LP := L.putQ (by omega) (by first | (simp; done) | (simp; omega)) (ng (rn)) A9 B9 (zl (rn)) c9 (len (rd)) d9
  have k0 := LP.b0.c30
  have k1 := LP.b0.c31
  have k2 := LP.b0.c32
  unfold put3 at k0 k1 k2
  exact bodyPost_ret (v := .agg #[.bool (ng (rn)), .slice A9 (zl (rn)) c9, .slice B9 (len (rd)) d9]) (by simp [results, Tryz.results29, go_sem, k0, k1, k2]) rfl ⟨_, rfl, LP.hq, LP.below⟩
set_option maxHeartbeats 4000000 in
theorem rcmp7_any (a : Int) (d : Nat) (b : Int) (e : Nat) (vx vy : Value) (w : World) (hx : IsP w vx a d) (hy : IsP w vy b e) (la : zl a ≤ 1000000) (ld : len d ≤ 1000000) (lb : zl b ≤ 1000000) (le : len e ≤ 1000000) :
    Calls Tryz.prog 37 #[vx, vy] w (RetI w (cmpI (a * (e : Int)) (b * (d : Int)))) := by
  obtain ⟨A, c, B, g, rfl, hza, _, _⟩ := hx.form
  obtain ⟨C, i, D, k, rfl, hzb, _, _⟩ := hy.form
  have L0 := ((((Lq.mk0 w).q hx).q hy).z hza).z hzb
  clear hx hy hza hzb
  have HX := Lib.hid (fun v W h => rden_any a d v W h (by omega))
  have HY := Lib.hid (fun v W h => rden_any b e v W h (by omega))
  have ld' : zl (d : Int) ≤ 1000000 := ld
  have le' : zl (e : Int) ≤ 1000000 := le
  have l1 := zl_mul a (e : Int)
  have l2 := zl_mul b (d : Int)
  have H1 := Lib.hid (fun v u W h1 h2 => rzmul_any a (e : Int) v u W h1 h2 (by omega) (by omega))
  have H2 := Lib.hid (fun v u W h1 h2 => rzmul_any b (d : Int) v u W h1 h2 (by omega) (by omega))
  have H3 := Lib.hid (fun v u W h1 h2 => rzcmp_any (a * (e : Int)) (b * (d : Int)) v u W h1 h2 (by omega) (by omega))
  generalize cmpI (a * (e : Int)) (b * (d : Int)) = r at *
  clear l1 l2 ld' le' la ld lb le
  generalize a * (e : Int) = p1 at *
  generalize b * (d : Int) = p2 at *
  go_enter Tryz.func37, Tryz.ntmps37
  go_wp2_with fail
  have L := ((L0.varQ (w.heap.size) (by simp) (ng a) A B (zl a) c (len d) g).varQ (w.heap.size + 1) (by simp) (ng b) C D (zl b) i (len e) k)
  replace L := L.drew
  have c00 := L.b0.c30
  have f00 := L.b0.fr 0
  have c01 := L.b0.c31
  have f01 := L.b0.fr 1
  have c02 := L.b0.c32
  have f02 := L.b0.fr 2
  have c10 := L.tl.b0.c30
  have c11 := L.tl.b0.c31
  have c12 := L.tl.b0.c32
  go_region_held3 (fun w' => w'.cell? ⟨w.heap.size, 0, none⟩ = some (.bool (ng a)) ∧ w'.cell? ⟨w.heap.size, 1, none⟩ = some (.slice A (zl a) c) ∧ w'.cell? ⟨w.heap.size, 2, none⟩ = some (.slice B (len d) g) ∧ w'.cell? ⟨w.heap.size + 1, 0, none⟩ = some (.bool (ng b)) ∧ w'.cell? ⟨w.heap.size + 1, 1, none⟩ = some (.slice C (zl b) i) ∧ w'.cell? ⟨w.heap.size + 1, 2, none⟩ = some (.slice D (len e) k)) (first | (with_reducible exact ⟨L.tl.b0.c30, L.tl.b0.c31, L.tl.b0.c32, L.b0.c30, L.b0.c31, L.b0.c32⟩) | exact ⟨L.tl.b0.c30, L.tl.b0.c31, L.tl.b0.c32, L.b0.c30, L.b0.c31, L.b0.c32⟩) (first | (go_at_call 80; (with_reducible refine (HX.out _ _ ?_ ).mono ?_); (· (refine L.getQ ?_; (repeat (first | (with_reducible exact List.mem_cons_self) | apply List.mem_cons_of_mem)))); rintro e wh ⟨vh, rfl, iz, be⟩; replace L := (L.step be).z iz; clear be iz) | (go_at_call 80; (with_reducible refine (HY.out _ _ ?_ ).mono ?_); (· (refine L.getQ ?_; (repeat (first | (with_reducible exact List.mem_cons_self) | apply List.mem_cons_of_mem)))); rintro e wh ⟨vh, rfl, iz, be⟩; replace L := (L.step be).z iz; clear be iz) | (go_at_call 79; (with_reducible refine (H1.out _ _ _ ?_ ?_ ).mono ?_); (· (refine L.getZ ?_; (repeat (first | (with_reducible exact List.mem_cons_self) | apply List.mem_cons_of_mem)))); (· (refine L.getZ ?_; (repeat (first | (with_reducible exact List.mem_cons_self) | apply List.mem_cons_of_mem)))); rintro e wh ⟨vh, rfl, iz, be⟩; replace L := (L.step be).z iz; clear be iz) | (go_at_call 79; (with_reducible refine (H2.out _ _ _ ?_ ?_ ).mono ?_); (· (refine L.getZ ?_; (repeat (first | (with_reducible exact List.mem_cons_self) | apply List.mem_cons_of_mem)))); (· (refine L.getZ ?_; (repeat (first | (with_reducible exact List.mem_cons_self) | apply List.mem_cons_of_mem)))); rintro e wh ⟨vh, rfl, iz, be⟩; replace L := (L.step be).z iz; clear be iz) | (go_at_call 85; (with_reducible refine (H3.out _ _ _ ?_ ?_ ).mono ?_); (· (refine L.getZ ?_; (repeat (first | (with_reducible exact List.mem_cons_self) | apply List.mem_cons_of_mem)))); (· (refine L.getZ ?_; (repeat (first | (with_reducible exact List.mem_cons_self) | apply List.mem_cons_of_mem)))); rintro e wh ⟨rfl, be⟩; replace L := L.step be; clear be))
  clear c00 f00 c01 f01 c02 f02 c10 c11 c12
  go_wp2_with fail
  go_ret
  exact ⟨rfl, L.below⟩

end Go.Proofs.YtpgiolbnmlbjbaaGreatDoor
