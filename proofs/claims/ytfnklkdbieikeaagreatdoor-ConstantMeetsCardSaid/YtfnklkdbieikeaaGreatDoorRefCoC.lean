/- The reference's over: floors and ceilings of quotients. -/
import Derived.Test.YtfnklkdbieikeaaGreatDoorRefCoA
import Derived.Test.YtfnklkdbieikeaaGreatDoorRefDivMod
import Derived.Test.YtfnklkdbieikeaaGreatDoorBaseV
import Derived.Deep.RegionHeld3
import Derived.Deep.DrawnRows
import Derived.Deep.Cut
import Derived.Deep.CutRange
namespace Go.Proofs.YtfnklkdbieikeaaGreatDoor
open Go.RowKit
set_option linter.unusedVariables false
set_option linter.unusedSimpArgs false
set_option maxRecDepth 100000
attribute [local go_sem ↓] Go.wp_at_zero Go.wp_at_succ

theorem abs_floor (y : Int) {n : Int} (hn : 0 < n) : (y / n).natAbs ≤ y.natAbs := by
  rcases Int.lt_or_le y 0 with h | h
  · have h1 : y / n < 0 := Int.ediv_neg_of_neg_of_pos h hn
    have h2 : y ≤ y / n := by
      rw [Int.le_ediv_iff_mul_le hn]
      have := Int.mul_le_mul_of_nonneg_left (show (1 : Int) ≤ n by omega) (show 0 ≤ -y by omega)
      rw [Int.mul_one, Int.neg_mul] at this
      omega
    omega
  · have h1 := Int.ediv_nonneg h (show 0 ≤ n by omega)
    have h2 := Int.ediv_le_self n h
    omega
theorem zl_floor (y : Int) {n : Int} (hn : 0 < n) : zl (y / n) ≤ zl y := len_mono (abs_floor y hn)
theorem zl_cdv (y : Int) {n : Int} (hn : 0 < n) : zl (cdv y n) ≤ zl y := by
  unfold cdv
  rw [zl_neg]
  exact Nat.le_trans (zl_floor (-y) hn) (Nat.le_of_eq (zl_neg y))

set_option maxHeartbeats 8000000 in
theorem s13overD_any (x n : Int) (vx vn : Value) (w : World) (hx : IsZ w vx x) (hn : IsZ w vn n) (lx : zl x ≤ 1000000) (ln : zl n ≤ 1000000) (h0 : 0 < n) :
    Calls Tryz.prog 167 #[vx, vn, .bool false] w (RetZ w (x / n)) := by
  obtain ⟨A, c, rfl, in1⟩ := hx.form
  obtain ⟨B, d, rfl, in2⟩ := hn.form
  have L0 := ((Lq.mk0 w).z hn).z hx
  have g2 := fun v u W h k => rzdivmod_pos x n v u W h k (by omega) (by omega) h0
  obtain ⟨C, hC⟩ : ∃ z, x / n = z := ⟨_, rfl⟩
  obtain ⟨R, hR⟩ : ∃ z, x % n = z := ⟨_, rfl⟩
  rw [hC, hR] at g2
  rw [hC]
  have H2 := Lib.hid g2
  clear g2 hC hR hx hn in1 in2 h0
  go_enter Tryz.func167, Tryz.ntmps167
  go_wp2_with fail
  have L := (((L0.varZ (w.heap.size) (by simp) (ng x) A (zl x) c).varZ (w.heap.size + 1) (by simp) (ng n) B (zl n) d).varZ (w.heap.size + 2) (by simp) false none 0 0)
  have c00 := L.b0.c20
  have f00 := L.b0.fr 0
  have c01 := L.b0.c21
  have f01 := L.b0.fr 1
  have c10 := L.tl.b0.c20
  have c11 := L.tl.b0.c21
  have c20 := L.tl.tl.b0.c20
  have c21 := L.tl.tl.b0.c21
  (try go_wp2_with fail)
  refine (H2.out _ _ _ (L.getZ (by simp)) (L.getZ (by simp))).mono ?_
  rintro e w1 ⟨v1, v2, rfl, i1, i2, be⟩
  clear c00 f00 c01 f01 c10 c11 c20 c21
  replace L := ((L.step be).z i2).z i1
  obtain ⟨A7, c7, rfl, _⟩ := i1.form
  obtain ⟨A6, c6, rfl, _⟩ := i2.form
  clear be i1 i2
  have hlt := L.b0.lt
  have c00 := L.b0.c20
  have f00 := L.b0.fr 0
  have c01 := L.b0.c21
  have f01 := L.b0.fr 1
  have c10 := L.tl.b0.c20
  have c11 := L.tl.b0.c21
  have c20 := L.tl.tl.b0.c20
  have c21 := L.tl.tl.b0.c21
  replace L := (L.varZ w1.heap.size rfl (ng C) A7 (zl C) c7).varZ (w1.heap.size + 1) (by simp) (ng R) A6 (zl R) c6
  have y0 := L.tl.b0.c20
  have y1 := L.tl.b0.c21
  have y2 := L.tl.tl.b0.c20
  have y3 := L.tl.tl.b0.c21
  have y4 := L.tl.tl.b0.fr 0
  have y5 := L.tl.tl.b0.fr 1
  have d1 : w.heap.size + 2 ≠ w1.heap.size := by omega
  have d2 : w.heap.size + 2 ≠ w1.heap.size + 1 := by omega
  have d3 : w.heap.size + 1 + 1 ≠ w1.heap.size := by omega
  have d4 : w.heap.size + 1 + 1 ≠ w1.heap.size + 1 := by omega
  go_wp2_with fail
  clear c00 f00 c01 f01 c10 c11 c20 c21
  replace L := L.pull2
  have LP := L.putZ (by omega) (by first | (simp; done) | (simp; omega)) (ng C) A7 (zl C) c7
  have k0 := LP.b0.c20
  have k1 := LP.b0.c21
  unfold put2 at k0 k1
  exact bodyPost_ret (v := .agg #[.bool (ng C), .slice A7 (zl C) c7]) (by simp [results, Tryz.results167, go_sem, k0, k1]) rfl ⟨_, rfl, LP.hz, LP.below⟩
set_option maxHeartbeats 8000000 in
theorem s13overU_any (x n : Int) (vx vn : Value) (w : World) (hx : IsZ w vx x) (hn : IsZ w vn n) (lx : zl x ≤ 1000000) (ln : zl n ≤ 1000000) (h0 : 0 < n) :
    Calls Tryz.prog 167 #[vx, vn, .bool true] w (RetZ w (cdv x n)) := by
  obtain ⟨A, c, rfl, in1⟩ := hx.form
  obtain ⟨B, d, rfl, in2⟩ := hn.form
  have L0 := ((Lq.mk0 w).z hn).z hx
  have z1 := zl_neg x
  have z2 := zl_floor (-x) h0
  unfold cdv
  have g1 := fun v W h => rzneg_any x v W h (by omega)
  have g2 := fun v u W h k => rzdivmod_pos (-x) n v u W h k (by omega) (by omega) h0
  have g3 := fun v W h => rzneg_any (-x / n) v W h (by omega)
  obtain ⟨y, hy⟩ : ∃ z, -x = z := ⟨_, rfl⟩
  rw [hy] at g1 g2 g3 ⊢
  obtain ⟨C, hC⟩ : ∃ z, y / n = z := ⟨_, rfl⟩
  obtain ⟨R, hR⟩ : ∃ z, y % n = z := ⟨_, rfl⟩
  rw [hC, hR] at g2
  rw [hC] at g3 ⊢
  obtain ⟨E, hE⟩ : ∃ z, -C = z := ⟨_, rfl⟩
  rw [hE] at g3 ⊢
  have H1 := Lib.hid g1
  have H2 := Lib.hid g2
  have H3 := Lib.hid g3
  clear g1 g2 g3 hC hR hE hy hx hn in1 in2 h0 z1 z2
  go_enter Tryz.func167, Tryz.ntmps167
  go_wp2_with fail
  have L := (((L0.varZ (w.heap.size) (by simp) (ng x) A (zl x) c).varZ (w.heap.size + 1) (by simp) (ng n) B (zl n) d).varZ (w.heap.size + 2) (by simp) false none 0 0)
  have c00 := L.b0.c20
  have f00 := L.b0.fr 0
  have c01 := L.b0.c21
  have f01 := L.b0.fr 1
  have c10 := L.tl.b0.c20
  have c11 := L.tl.b0.c21
  have c20 := L.tl.tl.b0.c20
  have c21 := L.tl.tl.b0.c21
  (try go_wp2_with fail)
  clear c00 f00 c01 f01 c10 c11 c20 c21
  obtain ⟨V, hV⟩ : ∃ V, ((w.alloc (.cells #[.bool (ng x), .slice A (zl x) c] 27)).alloc (.cells #[.bool (ng n), .slice B (zl n) d] 27)).alloc (.cells #[.bool false, .slice none 0 0] 27) = V := ⟨_, rfl⟩
  rw [hV] at L ⊢
  clear hV
  have Q0 := Lib.hid (fun Z (hZ : Below V.heap.size V Z) => (L.tl.tl.b0.mono hZ).c20)
  have Q1 := Lib.hid (fun Z (hZ : Below V.heap.size V Z) => (L.tl.tl.b0.mono hZ).c21)
  have Q2 := Lib.hid (fun Z (hZ : Below V.heap.size V Z) => (L.tl.b0.mono hZ).c20)
  have Q3 := Lib.hid (fun Z (hZ : Below V.heap.size V Z) => (L.tl.b0.mono hZ).c21)
  have hgx0 := L.b0.lt
  have D0 : Dq V V [] [(.agg #[.bool (ng x), .slice A (zl x) c], x), (.agg #[.bool (ng n), .slice B (zl n) d], n)] [] [] := ⟨((Lq.mk0 V).z (L.getZ (by simp))).z (L.getZ (by simp)), List.nodup_nil, fun p hp => by cases hp⟩
  have LL := Lib.hid L
  clear L
  have D := D0.drew
  obtain ⟨m, hmw⟩ : ∃ m, V.heap.size = m := ⟨_, rfl⟩
  have hz0 : m ≤ V.heap.size := by omega
  have hgx : w.heap.size < m := by omega
  have hgy : w.heap.size + 1 < m := by omega
  have hmd : V.drew.heap.size = m := hmw
  go_cut [7, 8, 9] from 14 to 21 (fun s3 s4 s5 wx => s5 = .bool true ∧ Made2Z V C R s3 s4 wx)
  case first =>
    go_region_held3 (fun w' => w'.cell? ⟨w.heap.size, 0, none⟩ = some (.bool (ng x)) ∧ w'.cell? ⟨w.heap.size, 1, none⟩ = some (.slice A (zl x) c) ∧ w'.cell? ⟨(w.heap.size + 1), 0, none⟩ = some (.bool (ng n)) ∧ w'.cell? ⟨(w.heap.size + 1), 1, none⟩ = some (.slice B (zl n) d)) (((try dsimp only); refine ⟨?_, ?_, ?_, ?_⟩ <;> (repeat (first | (with_reducible exact Q0.out _ D.lq.below) | (with_reducible exact Q0.out _ D0.lq.below) | (with_reducible exact Q1.out _ D.lq.below) | (with_reducible exact Q1.out _ D0.lq.below) | (with_reducible exact Q2.out _ D.lq.below) | (with_reducible exact Q2.out _ D0.lq.below) | (with_reducible exact Q3.out _ D.lq.below) | (with_reducible exact Q3.out _ D0.lq.below) | (with_reducible refine c_alloc _ ?_) | (with_reducible refine c_drew ?_) | (with_reducible refine c_set ?_ (by assumption) ?_) | omega)))) (first | (go_at_call 66; (with_reducible refine (H1.out _ _ ?_).mono ?_); (· (first | ((with_reducible refine D.getZ ?_) <;> (repeat (first | (with_reducible exact List.mem_cons_self) | apply List.mem_cons_of_mem))) | ((with_reducible refine (D.boxZ false none 0 0).getZ ?_) <;> (repeat (first | (with_reducible exact List.mem_cons_self) | apply List.mem_cons_of_mem))) | ((with_reducible refine (D.boxZ2 false none 0 0 false none 0 0).getZ ?_) <;> (repeat (first | (with_reducible exact List.mem_cons_self) | apply List.mem_cons_of_mem))) | ((with_reducible refine (D0.boxZ false none 0 0).drew.getZ ?_) <;> (repeat (first | (with_reducible exact List.mem_cons_self) | apply List.mem_cons_of_mem))) | ((with_reducible refine (D0.boxZ2 false none 0 0 false none 0 0).drew.getZ ?_) <;> (repeat (first | (with_reducible exact List.mem_cons_self) | apply List.mem_cons_of_mem))))); rintro e9 wh ⟨vh, rfl, iz, be⟩; (first | (replace D := D.step be) | (replace D := (D.boxMZ hmd false none 0 0).step be) | (replace D := (D.boxMZ2 hmd false none 0 0 false none 0 0).step be) | (replace D := (D.boxZ false none 0 0).step be) | (replace D := (D.boxZ2 false none 0 0 false none 0 0).step be)); have hz := be.size; (try simp at hz); replace D := D.z iz; obtain ⟨A8, c8, rfl, _⟩ := iz.form; clear iz; (try (have q000 := D.lq.b0.c20; have q001 := D.lq.b0.c21; have q002 := D.lq.b0.fr 0; have q003 := D.lq.b0.fr 1)); (try (have q010 := (D.alloc (.cells #[.bool false, .slice none 0 0] 27)).lq.b0.c20; have q011 := (D.alloc (.cells #[.bool false, .slice none 0 0] 27)).lq.b0.c21; have q012 := (D.alloc (.cells #[.bool false, .slice none 0 0] 27)).lq.b0.fr 0; have q013 := (D.alloc (.cells #[.bool false, .slice none 0 0] 27)).lq.b0.fr 1)); (try (have q020 := ((D.alloc (.cells #[.bool false, .slice none 0 0] 27)).alloc (.cells #[.bool false, .slice none 0 0] 27)).lq.b0.c20; have q021 := ((D.alloc (.cells #[.bool false, .slice none 0 0] 27)).alloc (.cells #[.bool false, .slice none 0 0] 27)).lq.b0.c21; have q022 := ((D.alloc (.cells #[.bool false, .slice none 0 0] 27)).alloc (.cells #[.bool false, .slice none 0 0] 27)).lq.b0.fr 0; have q023 := ((D.alloc (.cells #[.bool false, .slice none 0 0] 27)).alloc (.cells #[.bool false, .slice none 0 0] 27)).lq.b0.fr 1)); (try (have q100 := D.lq.tl.b0.c20; have q101 := D.lq.tl.b0.c21; have q102 := D.lq.tl.b0.fr 0; have q103 := D.lq.tl.b0.fr 1)); (try (have q110 := (D.alloc (.cells #[.bool false, .slice none 0 0] 27)).lq.tl.b0.c20; have q111 := (D.alloc (.cells #[.bool false, .slice none 0 0] 27)).lq.tl.b0.c21; have q112 := (D.alloc (.cells #[.bool false, .slice none 0 0] 27)).lq.tl.b0.fr 0; have q113 := (D.alloc (.cells #[.bool false, .slice none 0 0] 27)).lq.tl.b0.fr 1)); (try (have q120 := ((D.alloc (.cells #[.bool false, .slice none 0 0] 27)).alloc (.cells #[.bool false, .slice none 0 0] 27)).lq.tl.b0.c20; have q121 := ((D.alloc (.cells #[.bool false, .slice none 0 0] 27)).alloc (.cells #[.bool false, .slice none 0 0] 27)).lq.tl.b0.c21; have q122 := ((D.alloc (.cells #[.bool false, .slice none 0 0] 27)).alloc (.cells #[.bool false, .slice none 0 0] 27)).lq.tl.b0.fr 0; have q123 := ((D.alloc (.cells #[.bool false, .slice none 0 0] 27)).alloc (.cells #[.bool false, .slice none 0 0] 27)).lq.tl.b0.fr 1)); (try obtain ⟨na, nb, nc, nd, nl⟩ := D.n0); (try obtain ⟨ne, nf, ng', nh, nm⟩ := D.n1); (try obtain ⟨ni, nj⟩ := D.n01)) | (go_at_call 189; (with_reducible refine (H2.out _ _ _ ?_ ?_).mono ?_); (· (first | ((with_reducible refine D.getZ ?_) <;> (repeat (first | (with_reducible exact List.mem_cons_self) | apply List.mem_cons_of_mem))) | ((with_reducible refine (D.boxZ false none 0 0).getZ ?_) <;> (repeat (first | (with_reducible exact List.mem_cons_self) | apply List.mem_cons_of_mem))) | ((with_reducible refine (D.boxZ2 false none 0 0 false none 0 0).getZ ?_) <;> (repeat (first | (with_reducible exact List.mem_cons_self) | apply List.mem_cons_of_mem))) | ((with_reducible refine (D0.boxZ false none 0 0).drew.getZ ?_) <;> (repeat (first | (with_reducible exact List.mem_cons_self) | apply List.mem_cons_of_mem))) | ((with_reducible refine (D0.boxZ2 false none 0 0 false none 0 0).drew.getZ ?_) <;> (repeat (first | (with_reducible exact List.mem_cons_self) | apply List.mem_cons_of_mem))))); (· (first | ((with_reducible refine D.getZ ?_) <;> (repeat (first | (with_reducible exact List.mem_cons_self) | apply List.mem_cons_of_mem))) | ((with_reducible refine (D.boxZ false none 0 0).getZ ?_) <;> (repeat (first | (with_reducible exact List.mem_cons_self) | apply List.mem_cons_of_mem))) | ((with_reducible refine (D.boxZ2 false none 0 0 false none 0 0).getZ ?_) <;> (repeat (first | (with_reducible exact List.mem_cons_self) | apply List.mem_cons_of_mem))) | ((with_reducible refine (D0.boxZ false none 0 0).drew.getZ ?_) <;> (repeat (first | (with_reducible exact List.mem_cons_self) | apply List.mem_cons_of_mem))) | ((with_reducible refine (D0.boxZ2 false none 0 0 false none 0 0).drew.getZ ?_) <;> (repeat (first | (with_reducible exact List.mem_cons_self) | apply List.mem_cons_of_mem))))); rintro e9 wh ⟨vh, vj, rfl, iz, iy, be⟩; (first | (replace D := D.step be) | (replace D := (D.boxMZ hmd false none 0 0).step be) | (replace D := (D.boxMZ2 hmd false none 0 0 false none 0 0).step be) | (replace D := (D.boxZ false none 0 0).step be) | (replace D := (D.boxZ2 false none 0 0 false none 0 0).step be)); have hzz := be.size; (try simp at hzz); replace D := (D.z iy).z iz; obtain ⟨A7, c7, rfl, _⟩ := iz.form; obtain ⟨A6, c6, rfl, _⟩ := iy.form; clear iz iy; (try (have q000 := D.lq.b0.c20; have q001 := D.lq.b0.c21; have q002 := D.lq.b0.fr 0; have q003 := D.lq.b0.fr 1)); (try (have q010 := (D.alloc (.cells #[.bool false, .slice none 0 0] 27)).lq.b0.c20; have q011 := (D.alloc (.cells #[.bool false, .slice none 0 0] 27)).lq.b0.c21; have q012 := (D.alloc (.cells #[.bool false, .slice none 0 0] 27)).lq.b0.fr 0; have q013 := (D.alloc (.cells #[.bool false, .slice none 0 0] 27)).lq.b0.fr 1)); (try (have q020 := ((D.alloc (.cells #[.bool false, .slice none 0 0] 27)).alloc (.cells #[.bool false, .slice none 0 0] 27)).lq.b0.c20; have q021 := ((D.alloc (.cells #[.bool false, .slice none 0 0] 27)).alloc (.cells #[.bool false, .slice none 0 0] 27)).lq.b0.c21; have q022 := ((D.alloc (.cells #[.bool false, .slice none 0 0] 27)).alloc (.cells #[.bool false, .slice none 0 0] 27)).lq.b0.fr 0; have q023 := ((D.alloc (.cells #[.bool false, .slice none 0 0] 27)).alloc (.cells #[.bool false, .slice none 0 0] 27)).lq.b0.fr 1)); (try (have q100 := D.lq.tl.b0.c20; have q101 := D.lq.tl.b0.c21; have q102 := D.lq.tl.b0.fr 0; have q103 := D.lq.tl.b0.fr 1)); (try (have q110 := (D.alloc (.cells #[.bool false, .slice none 0 0] 27)).lq.tl.b0.c20; have q111 := (D.alloc (.cells #[.bool false, .slice none 0 0] 27)).lq.tl.b0.c21; have q112 := (D.alloc (.cells #[.bool false, .slice none 0 0] 27)).lq.tl.b0.fr 0; have q113 := (D.alloc (.cells #[.bool false, .slice none 0 0] 27)).lq.tl.b0.fr 1)); (try (have q120 := ((D.alloc (.cells #[.bool false, .slice none 0 0] 27)).alloc (.cells #[.bool false, .slice none 0 0] 27)).lq.tl.b0.c20; have q121 := ((D.alloc (.cells #[.bool false, .slice none 0 0] 27)).alloc (.cells #[.bool false, .slice none 0 0] 27)).lq.tl.b0.c21; have q122 := ((D.alloc (.cells #[.bool false, .slice none 0 0] 27)).alloc (.cells #[.bool false, .slice none 0 0] 27)).lq.tl.b0.fr 0; have q123 := ((D.alloc (.cells #[.bool false, .slice none 0 0] 27)).alloc (.cells #[.bool false, .slice none 0 0] 27)).lq.tl.b0.fr 1)); (try obtain ⟨na, nb, nc, nd, nl⟩ := D.n0); (try obtain ⟨ne, nf, ng', nh, nm⟩ := D.n1); (try obtain ⟨ni, nj⟩ := D.n01)))
    all_goals
      go_wp2_with fail
      go_meet
      refine ⟨rfl, ?_⟩
      first
      | ((with_reducible refine made2z_a D ?_ ?_) <;> (repeat (first | (with_reducible exact List.mem_cons_self) | apply List.mem_cons_of_mem)))
      | ((with_reducible refine made2z_b D ?_ ?_) <;> (repeat (first | (with_reducible exact List.mem_cons_self) | apply List.mem_cons_of_mem)))
      | ((with_reducible refine made2z_c D ?_ ?_) <;> (repeat (first | (with_reducible exact List.mem_cons_self) | apply List.mem_cons_of_mem)))
      | ((with_reducible refine made2z_d D ?_ ?_) <;> (repeat (first | (with_reducible exact List.mem_cons_self) | apply List.mem_cons_of_mem)))
      | ((with_reducible refine made2z_e D ?_ ?_) <;> (repeat (first | (with_reducible exact List.mem_cons_self) | apply List.mem_cons_of_mem)))
      | ((with_reducible refine made2z_f D ?_ ?_) <;> (repeat (first | (with_reducible exact List.mem_cons_self) | apply List.mem_cons_of_mem)))
  case rest =>
    obtain ⟨rfl, g1, g2, A1, c1, A2, c2, rfl, rfl, hg1, hg2, hg3, bw, hb1, hb2, hz1, hz2⟩ := hcut
    have hg4 := LL.out.b0.lt
    have L := ((((LL.out.step bw).z hz2).z hz1).b hb2).b hb1
    clear D D0 hmd hz0 hgx hgy Q0 Q1 Q2 Q3 LL hb1 hb2 hz1 hz2 bw
    have e1 : w.heap.size + 2 ≠ g1 := by omega
    have e2 : w.heap.size + 2 ≠ g2 := by omega
    have e3 : w.heap.size + 1 + 1 ≠ g1 := by omega
    generalize wc = wd at *
    have c00 := L.b0.c20
    have c01 := L.b0.c21
    (try go_wp2_with fail)
    refine (H3.out _ _ (L.getZ (v := .agg #[.bool (ng C), .slice A1 (zl C) c1]) (by simp))).mono ?_
    rintro e w6 ⟨v1, rfl, iz, be⟩
    clear c00 c01
    replace L := (L.step be).z iz
    obtain ⟨A9, c9, rfl, _⟩ := iz.form
    clear be iz
    replace L := L.pull2
    have c00 := L.b0.c20
    have f00 := L.b0.fr 0
    have c01 := L.b0.c21
    have f01 := L.b0.fr 1
    (try go_wp2_with fail)
    have LP := L.putZ (by omega) (by first | (simp; done) | (simp; omega)) (ng E) A9 (zl E) c9
    have k0 := LP.b0.c20
    have k1 := LP.b0.c21
    unfold put2 at k0 k1
    exact bodyPost_ret (v := .agg #[.bool (ng E), .slice A9 (zl E) c9]) (by simp [results, Tryz.results167, go_sem, k0, k1]) rfl ⟨_, rfl, LP.hz, LP.below⟩

end Go.Proofs.YtfnklkdbieikeaaGreatDoor
