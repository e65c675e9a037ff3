/- The reference's Div, Of, Same, Size, Sqrt; the mill's Rat. -/
import Derived.Test.YtbndgggjfjdfbabGreatDoorRefRatB
import Derived.Test.YtbndgggjfjdfbabGreatDoorBaseR
import Derived.Deep.RegionHeld3
import Derived.Deep.DrawnRows
namespace Go.Proofs.YtbndgggjfjdfbabGreatDoor
open Go.RowKit
set_option linter.unusedVariables false
set_option linter.unusedSimpArgs false
set_option maxRecDepth 100000
attribute [local go_sem ↓] Go.wp_at_zero Go.wp_at_succ

set_option maxHeartbeats 4000000 in
theorem rdiv7_any (a : Int) (d : Nat) (b : Int) (e : Nat) (vx vy : Value) (w : World) (hx : IsP w vx a d) (hy : IsP w vy b e) (la : zl a ≤ 1000000) (ld : len d ≤ 1000000) (lb : zl b ≤ 1000000) (le : len e ≤ 1000000) (hd0 : 0 < d) (hb0 : b ≠ 0) :
    Calls Tryz.prog 18 #[vx, vy] w (RetPE w (Rat.divInt (a * (e : Int)) ((d : Int) * b)).num (Rat.divInt (a * (e : Int)) ((d : Int) * b)).den 0) := by
  obtain ⟨A, c, B, g, rfl, hza, _, _⟩ := hx.form
  obtain ⟨C, i, D, k, rfl, hzb, _, _⟩ := hy.form
  have L0 := ((((Lq.mk0 w).q hx).q hy).z hza).z hzb
  clear hx hy hza hzb
  have HX := Lib.hid (fun v W h => rden_any a d v W h (by omega))
  have HY := Lib.hid (fun v W h => rden_any b e v W h (by omega))
  have ld' : zl (d : Int) ≤ 1000000 := ld
  have le' : zl (e : Int) ≤ 1000000 := le
  have l1 := zl_mul a (e : Int)
  have H1 := Lib.hid (fun v u W h1 h2 => rzmul_any a (e : Int) v u W h1 h2 (by omega) (by omega))
  have l2 := zl_mul (d : Int) b
  have h0 : (d : Int) * b ≠ 0 := Int.mul_ne_zero (by omega) hb0
  have H2 := Lib.hid (fun v u W h1 h2 => rzmul_any (d : Int) b v u W h1 h2 (by omega) (by omega))
  have H5 := Lib.hid (fun v u W h1 h2 => rmake_any (a * (e : Int)) ((d : Int) * b) v u W h1 h2 (by omega) (by omega) h0)
  generalize (Rat.divInt (a * (e : Int)) ((d : Int) * b)).num = rn at *
  generalize (Rat.divInt (a * (e : Int)) ((d : Int) * b)).den = rd at *
  clear h0 l1 l2 ld' le' la ld lb le hd0 hb0
  generalize a * (e : Int) = p1 at *
  generalize (d : Int) * b = p2 at *
  go_enter Tryz.func18, Tryz.ntmps18
  go_wp2_with fail
  have L := (((L0.varQ (w.heap.size) (by simp) (ng a) A B (zl a) c (len d) g).varQ (w.heap.size + 1) (by simp) (ng b) C D (zl b) i (len e) k).varQ (w.heap.size + 2) (by simp) false none none 0 0 0 0)
  replace L := L.drew
  have c00 := L.b0.c30
  have f00 := L.b0.fr 0
  have c01 := L.b0.c31
  have f01 := L.b0.fr 1
  have c02 := L.b0.c32
  have f02 := L.b0.fr 2
  have c10 := L.tl.b0.c30
  have c11 := L.tl.b0.c31
  have c12 := L.tl.b0.c32
  have c20 := L.tl.tl.b0.c30
  have c21 := L.tl.tl.b0.c31
  have c22 := L.tl.tl.b0.c32
  go_region_held3 (fun w' => w'.cell? ⟨w.heap.size, 0, none⟩ = some (.bool (ng a)) ∧ w'.cell? ⟨w.heap.size, 1, none⟩ = some (.slice A (zl a) c) ∧ w'.cell? ⟨w.heap.size, 2, none⟩ = some (.slice B (len d) g) ∧ w'.cell? ⟨w.heap.size + 1, 0, none⟩ = some (.bool (ng b)) ∧ w'.cell? ⟨w.heap.size + 1, 1, none⟩ = some (.slice C (zl b) i) ∧ w'.cell? ⟨w.heap.size + 1, 2, none⟩ = some (.slice D (len e) k)) (first | (with_reducible exact ⟨L.tl.tl.b0.c30, L.tl.tl.b0.c31, L.tl.tl.b0.c32, L.tl.b0.c30, L.tl.b0.c31, L.tl.b0.c32⟩) | exact ⟨L.tl.tl.b0.c30, L.tl.tl.b0.c31, L.tl.tl.b0.c32, L.tl.b0.c30, L.tl.b0.c31, L.tl.b0.c32⟩ | (have LP := L.putQ (by omega) (by first | (simp; done) | (simp; omega)) (ng rn) A9 B9 (zl rn) c9 (len rd) d9; exact ⟨LP.tl.tl.b0.c30, LP.tl.tl.b0.c31, LP.tl.tl.b0.c32, LP.tl.b0.c30, LP.tl.b0.c31, LP.tl.b0.c32⟩)) (first | (go_at_call 40; (with_reducible refine (HX.out _ _ ?_ ).mono ?_); (· (refine L.getQ ?_; (repeat (first | (with_reducible exact List.mem_cons_self) | apply List.mem_cons_of_mem)))); rintro e wh ⟨vh, rfl, iz, be⟩; replace L := (L.step be).z iz; clear be iz) | (go_at_call 40; (with_reducible refine (HY.out _ _ ?_ ).mono ?_); (· (refine L.getQ ?_; (repeat (first | (with_reducible exact List.mem_cons_self) | apply List.mem_cons_of_mem)))); rintro e wh ⟨vh, rfl, iz, be⟩; replace L := (L.step be).z iz; clear be iz) | (go_at_call 42; (with_reducible refine (H1.out _ _ _ ?_ ?_ ).mono ?_); (· (refine L.getZ ?_; (repeat (first | (with_reducible exact List.mem_cons_self) | apply List.mem_cons_of_mem)))); (· (refine L.getZ ?_; (repeat (first | (with_reducible exact List.mem_cons_self) | apply List.mem_cons_of_mem)))); rintro e wh ⟨vh, rfl, iz, be⟩; replace L := (L.step be).z iz; clear be iz) | (go_at_call 42; (with_reducible refine (H2.out _ _ _ ?_ ?_ ).mono ?_); (· (refine L.getZ ?_; (repeat (first | (with_reducible exact List.mem_cons_self) | apply List.mem_cons_of_mem)))); (· (refine L.getZ ?_; (repeat (first | (with_reducible exact List.mem_cons_self) | apply List.mem_cons_of_mem)))); rintro e wh ⟨vh, rfl, iz, be⟩; replace L := (L.step be).z iz; clear be iz) | (go_at_call 30; (with_reducible refine (H5.out _ _ _ ?_ ?_ ).mono ?_); (· (refine L.getZ ?_; (repeat (first | (with_reducible exact List.mem_cons_self) | apply List.mem_cons_of_mem)))); (· (refine L.getZ ?_; (repeat (first | (with_reducible exact List.mem_cons_self) | apply List.mem_cons_of_mem)))); rintro e wh ⟨vh, rfl, iq, be⟩; replace L := (L.step be).q iq; obtain ⟨A9, c9, B9, d9, rfl, _, _, _⟩ := iq.form; clear be iq; (try (have x00 := L.b0.c30; have x01 := L.b0.c31; have x02 := L.b0.c32; have y00 := L.b0.fr 0; have y01 := L.b0.fr 1; have y02 := L.b0.fr 2))))
  clear c00 f00 c01 f01 c02 f02 c10 c11 c12 c20 c21 c22
  go_wp2_with fail
  have LP := L.putQ (by omega) (by first | (simp; done) | (simp; omega)) (ng (rn)) A9 B9 (zl (rn)) c9 (len (rd)) d9
  have k0 := LP.b0.c30
  have k1 := LP.b0.c31
  have k2 := LP.b0.c32
  unfold put3 at k0 k1 k2
  exact bodyPost_ret (v := .tuple #[.agg #[.bool (ng (rn)), .slice A9 (zl (rn)) c9, .slice B9 (len (rd)) d9], .int .i64 0]) (by simp [results, Tryz.results18, go_sem, k0, k1, k2]) rfl ⟨_, rfl, LP.hq, LP.below⟩
set_option maxHeartbeats 4000000 in
theorem rdiv7_zero (a : Int) (d : Nat) (e : Nat) (vx vy : Value) (w : World) (hx : IsP w vx a d) (hy : IsP w vy 0 e) (la : zl a ≤ 1000000) (ld : len d ≤ 1000000) (le : len e ≤ 1000000) (hd0 : 0 < d) :
    Calls Tryz.prog 18 #[vx, vy] w (RetPE w 0 0 2) := by
  obtain ⟨A, c, B, g, rfl, hza, _, _⟩ := hx.form
  obtain ⟨C, i, D, k, rfl, hzb, _, _⟩ := hy.form
  have L0 := ((((Lq.mk0 w).q hx).q hy).z hza).z hzb
  clear hx hy hza hzb
  have HX := Lib.hid (fun v W h => rden_any a d v W h (by omega))
  have HY := Lib.hid (fun v W h => rden_any 0 e v W h (by omega))
  have lb : zl (0 : Int) ≤ 1000000 := by rw [zl_zero]; omega
  have ld' : zl (d : Int) ≤ 1000000 := ld
  have le' : zl (e : Int) ≤ 1000000 := le
  have l1 := zl_mul a (e : Int)
  have H1 := Lib.hid (fun v u W h1 h2 => rzmul_any a (e : Int) v u W h1 h2 (by omega) (by omega))
  have h2 := fun v u W h1 h2 => rzmul_any (d : Int) 0 v u W h1 h2 (by omega) (by omega)
  rw [Int.mul_zero] at h2
  have H2 := Lib.hid h2
  have H5 := Lib.hid (fun v u W h1 h2 => rmake_zero (a * (e : Int)) v u W h1 h2)
  clear h2 l1 ld' le' la ld lb le hd0
  generalize a * (e : Int) = p1 at *
  go_enter Tryz.func18, Tryz.ntmps18
  go_wp2_with fail
  have L := (((L0.varQ (w.heap.size) (by simp) (ng a) A B (zl a) c (len d) g).varQ (w.heap.size + 1) (by simp) (ng 0) C D (zl 0) i (len e) k).varQ (w.heap.size + 2) (by simp) false none none 0 0 0 0)
  replace L := L.drew
  have c00 := L.b0.c30
  have f00 := L.b0.fr 0
  have c01 := L.b0.c31
  have f01 := L.b0.fr 1
  have c02 := L.b0.c32
  have f02 := L.b0.fr 2
  have c10 := L.tl.b0.c30
  have c11 := L.tl.b0.c31
  have c12 := L.tl.b0.c32
  have c20 := L.tl.tl.b0.c30
  have c21 := L.tl.tl.b0.c31
  have c22 := L.tl.tl.b0.c32
  go_region_held3 (fun w' => w'.cell? ⟨w.heap.size, 0, none⟩ = some (.bool (ng a)) ∧ w'.cell? ⟨w.heap.size, 1, none⟩ = some (.slice A (zl a) c) ∧ w'.cell? ⟨w.heap.size, 2, none⟩ = some (.slice B (len d) g) ∧ w'.cell? ⟨w.heap.size + 1, 0, none⟩ = some (.bool (ng 0)) ∧ w'.cell? ⟨w.heap.size + 1, 1, none⟩ = some (.slice C (zl 0) i) ∧ w'.cell? ⟨w.heap.size + 1, 2, none⟩ = some (.slice D (len e) k)) (first | (with_reducible exact ⟨L.tl.tl.b0.c30, L.tl.tl.b0.c31, L.tl.tl.b0.c32, L.tl.b0.c30, L.tl.b0.c31, L.tl.b0.c32⟩) | exact ⟨L.tl.tl.b0.c30, L.tl.tl.b0.c31, L.tl.tl.b0.c32, L.tl.b0.c30, L.tl.b0.c31, L.tl.b0.c32⟩ | (have LP := L.putQ (by omega) (by first | (simp; done) | (simp; omega)) (ng 0) A9 B9 (zl 0) c9 (len 0) d9; exact ⟨LP.tl.tl.b0.c30, LP.tl.tl.b0.c31, LP.tl.tl.b0.c32, LP.tl.b0.c30, LP.tl.b0.c31, LP.tl.b0.c32⟩)) (first | (go_at_call 40; (with_reducible refine (HX.out _ _ ?_ ).mono ?_); (· (refine L.getQ ?_; (repeat (first | (with_reducible exact List.mem_cons_self) | apply List.mem_cons_of_mem)))); rintro e wh ⟨vh, rfl, iz, be⟩; replace L := (L.step be).z iz; clear be iz) | (go_at_call 40; (with_reducible refine (HY.out _ _ ?_ ).mono ?_); (· (refine L.getQ ?_; (repeat (first | (with_reducible exact List.mem_cons_self) | apply List.mem_cons_of_mem)))); rintro e wh ⟨vh, rfl, iz, be⟩; replace L := (L.step be).z iz; clear be iz) | (go_at_call 42; (with_reducible refine (H1.out _ _ _ ?_ ?_ ).mono ?_); (· (refine L.getZ ?_; (repeat (first | (with_reducible exact List.mem_cons_self) | apply List.mem_cons_of_mem)))); (· (refine L.getZ ?_; (repeat (first | (with_reducible exact List.mem_cons_self) | apply List.mem_cons_of_mem)))); rintro e wh ⟨vh, rfl, iz, be⟩; replace L := (L.step be).z iz; clear be iz) | (go_at_call 42; (with_reducible refine (H2.out _ _ _ ?_ ?_ ).mono ?_); (· (refine L.getZ ?_; (repeat (first | (with_reducible exact List.mem_cons_self) | apply List.mem_cons_of_mem)))); (· (refine L.getZ ?_; (repeat (first | (with_reducible exact List.mem_cons_self) | apply List.mem_cons_of_mem)))); rintro e wh ⟨vh, rfl, iz, be⟩; replace L := (L.step be).z iz; clear be iz) | (go_at_call 30; (with_reducible refine (H5.out _ _ _ ?_ ?_ ).mono ?_); (· (refine L.getZ ?_; (repeat (first | (with_reducible exact List.mem_cons_self) | apply List.mem_cons_of_mem)))); (· (refine L.getZ ?_; (repeat (first | (with_reducible exact List.mem_cons_self) | apply List.mem_cons_of_mem)))); rintro e wh ⟨vh, rfl, iq, be⟩; replace L := (L.step be).q iq; obtain ⟨A9, c9, B9, d9, rfl, _, _, _⟩ := iq.form; clear be iq; (try (have x00 := L.b0.c30; have x01 := L.b0.c31; have x02 := L.b0.c32; have y00 := L.b0.fr 0; have y01 := L.b0.fr 1; have y02 := L.b0.fr 2))))
  clear c00 f00 c01 f01 c02 f02 c10 c11 c12 c20 c21 c22
  go_wp2_with fail
  have LP := L.putQ (by omega) (by first | (simp; done) | (simp; omega)) (ng (0)) A9 B9 (zl (0)) c9 (len (0)) d9
  have k0 := LP.b0.c30
  have k1 := LP.b0.c31
  have k2 := LP.b0.c32
  unfold put3 at k0 k1 k2
  exact bodyPost_ret (v := .tuple #[.agg #[.bool (ng (0)), .slice A9 (zl (0)) c9, .slice B9 (len (0)) d9], .int .i64 2]) (by simp [results, Tryz.results18, go_sem, k0, k1, k2]) rfl ⟨_, rfl, LP.hq, LP.below⟩
set_option maxHeartbeats 1000000 in
theorem rofn7_any (n : Int) (w : World) (h1 : -9223372036854775808 ≤ n) (h2 : n ≤ 9223372036854775807) :
    Calls Tryz.prog 15 #[.int .i64 n] w (RetQ w (n : Rat)) := by
  have H1 := Lib.hid (fun W => rzof_any n W h1 h2)
  have H2 := Lib.hid (fun W => rzof_any 1 W (by omega) (by omega))
  have l1 : zl 1 ≤ 1 := len_le1 (show 1 < 4294967296 by omega)
  have l2 : zl n ≤ 2 := len_le_iff.2 (by unfold W32; omega)
  have h3 := fun v u W k1 k2 => rof7_any n 1 v u W k1 k2 (by omega) (by omega) (by omega)
  rw [rat_of] at h3
  unfold RetQ at h3 ⊢
  have H3 := Lib.hid h3
  generalize (n : Rat).num = rn at *
  generalize (n : Rat).den = rd at *
  clear h3 l1 l2
  go_enter Tryz.func15, Tryz.ntmps15
  go_wp2_with fail
  have L := ((Lq.mk0 w).varQ (w.heap.size) (by simp) false none none 0 0 0 0)
  refine (H1.out _).mono ?_
  rintro e w1 ⟨v1, rfl, iz, be⟩
  replace L := (L.step be).z iz
  clear be iz
  go_wp2_with fail
  refine (H2.out _).mono ?_
  rintro e w2 ⟨v2, rfl, iz, be⟩
  replace L := (L.step be).z iz
  clear be iz
  go_wp2_with fail
  refine (H3.out _ _ _ (L.getZ (by simp)) (L.getZ (by simp))).mono ?_
  rintro e w3 ⟨v3, rfl, iq, be⟩
  replace L := (L.step be).q iq
  obtain ⟨A9, c9, B9, d9, rfl, _, _, _⟩ := iq.form
  clear be iq
  have c00 := L.b0.c30
  have f00 := L.b0.fr 0
  have c01 := L.b0.c31
  have f01 := L.b0.fr 1
  have c02 := L.b0.c32
  have f02 := L.b0.fr 2
  go_wp2_with fail
  have LP := L.putQ (by omega) (by first | (simp; done) | (simp; omega)) (ng (rn)) A9 B9 (zl (rn)) c9 (len (rd)) d9
  have k0 := LP.b0.c30
  have k1 := LP.b0.c31
  have k2 := LP.b0.c32
  unfold put3 at k0 k1 k2
  exact bodyPost_ret (v := .agg #[.bool (ng (rn)), .slice A9 (zl (rn)) c9, .slice B9 (len (rd)) d9]) (by simp [results, Tryz.results15, go_sem, k0, k1, k2]) rfl ⟨_, rfl, LP.hq, LP.below⟩
set_option maxHeartbeats 1000000 in
theorem same7_yes (a : Int) (d : Nat) (vx vy : Value) (w : World) (hx : IsP w vx a d) (hy : IsP w vy a d) :
    Calls Tryz.prog 23 #[vx, vy] w (RetB w true) := by
  obtain ⟨A, c, B, g, rfl, hza, _, hna⟩ := hx.form
  obtain ⟨C, i, D, k, rfl, hzb, _, hnb⟩ := hy.form
  have L0 := ((((Lq.mk0 w).n hna).n hnb).z hza).z hzb
  clear hx hy hza hzb hna hnb
  go_enter Tryz.func23, Tryz.ntmps23
  go_wp2_with fail
  have L := ((L0.varQ (w.heap.size) (by simp) (ng a) A B (zl a) c (len d) g).varQ (w.heap.size + 1) (by simp) (ng a) C D (zl a) i (len d) k)
  have c00 := L.b0.c30
  have f00 := L.b0.fr 0
  have c01 := L.b0.c31
  have f01 := L.b0.fr 1
  have c02 := L.b0.c32
  have f02 := L.b0.fr 2
  have c10 := L.tl.b0.c30
  have c11 := L.tl.b0.c31
  have c12 := L.tl.b0.c32
  refine (zsame_yes a a _ _ _ (L.getZ (by simp)) (L.getZ (by simp)) rfl).mono ?_
  rintro e w1 ⟨rfl, be⟩
  clear c00 f00 c01 f01 c02 f02 c10 c11 c12
  replace L := L.step be
  clear be
  have c00 := L.b0.c30
  have f00 := L.b0.fr 0
  have c01 := L.b0.c31
  have f01 := L.b0.fr 1
  have c02 := L.b0.c32
  have f02 := L.b0.fr 2
  have c10 := L.tl.b0.c30
  have c11 := L.tl.b0.c31
  have c12 := L.tl.b0.c32
  go_wp2_with fail
  refine (same_yes d d _ _ _ (L.getN (by simp)) (L.getN (by simp)) rfl).mono ?_
  rintro e w' ⟨rfl, rfl⟩
  go_wp2_with fail
  go_ret
  exact ⟨rfl, L.below⟩

end Go.Proofs.YtbndgggjfjdfbabGreatDoor
