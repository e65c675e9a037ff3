/- The program's Add and Sub of fractions. -/
import Derived.Test.YtbndgggjfjdfbaaGreatDoorRatP
import Derived.Test.YtbndgggjfjdfbaaGreatDoorRatWaysZ
import Derived.Deep.RegionHeld3
import Derived.Deep.DrawnRows
import Derived.Deep.Cut
import Derived.Deep.CutRange
namespace Go.Proofs.YtbndgggjfjdfbaaGreatDoor
open Go.RowKit
set_option linter.unusedVariables false
set_option linter.unusedSimpArgs false
set_option maxRecDepth 100000
attribute [local go_sem ↓] Go.wp_at_zero Go.wp_at_succ

set_option maxHeartbeats 4000000 in
theorem padd_any (a : Int) (d : Nat) (b : Int) (e : Nat) (vx vy : Value) (w : World) (hx : IsP w vx a d) (hy : IsP w vy b e) (la : zl a ≤ 1000000) (ld : len d ≤ 1000000) (lb : zl b ≤ 1000000) (le : len e ≤ 1000000) (hd0 : 0 < d) (he0 : 0 < e) :
    Calls Tryz.prog 19 #[vx, vy] w (RetQ w (Rat.divInt (a * (e : Int) + b * (d : Int)) ((d : Int) * (e : Int)))) := by
  obtain ⟨A, c, B, g, rfl, hza, _, hnd⟩ := hx.form
  obtain ⟨C, i, D', k, rfl, hzb, _, hne⟩ := hy.form
  have L0 := ((((((Lq.mk0 w).q hx).q hy).z hza).z hzb).n hnd).n hne
  have ld' : zl (d : Int) ≤ 1000000 := ld
  have le' : zl (e : Int) ≤ 1000000 := le
  have l1 := zl_mul a (e : Int)
  have l2 := zl_mul b (d : Int)
  have l3 := len_mul d e
  have l4 := zl_add (a * (e : Int)) (b * (d : Int))
  have H1 := Lib.hid (fun v u W h1 h2 => ptimes_any a e v u W h1 h2 (by omega) (by omega))
  have H2 := Lib.hid (fun v u W h1 h2 => ptimes_any b d v u W h1 h2 (by omega) (by omega))
  have H3 := Lib.hid (fun v u W h1 h2 => mul_any d e v u W h1 h2 (by omega) (by omega))
  have H4 := Lib.hid (fun v u W h1 h2 => zadd_any (a * (e : Int)) (b * (d : Int)) v u W h1 h2 (by omega) (by omega))
  have h5 := fun v u W h1 h2 => plow_any (a * (e : Int) + b * (d : Int)) (d * e) v u W h1 h2 (by omega) (by omega) (Nat.mul_pos hd0 he0)
  rw [Int.natCast_mul] at h5
  unfold RetQ at h5 ⊢
  have H5 := Lib.hid h5
  generalize (Rat.divInt (a * (e : Int) + b * (d : Int)) ((d : Int) * (e : Int))).num = rn at *
  generalize (Rat.divInt (a * (e : Int) + b * (d : Int)) ((d : Int) * (e : Int))).den = rd at *
  clear h5 l1 l2 l3 l4 ld' le' la ld lb le hd0 he0 hx hy
  generalize a * (e : Int) + b * (d : Int) = p0 at *
  generalize a * (e : Int) = p1 at *
  generalize b * (d : Int) = p2 at *
  generalize d * e = p3 at *
  go_enter Tryz.func19, Tryz.ntmps19
  go_wp2_with fail
  have L := (((L0.varQ (w.heap.size) (by simp) (ng a) A B (zl a) c (len d) g).varQ (w.heap.size + 1) (by simp) (ng b) C D' (zl b) i (len e) k).varQ (w.heap.size + 2) (by simp) false none none 0 0 0 0)
  obtain ⟨W, hW⟩ : ∃ W, ((w.alloc (.cells #[.bool (ng a), .slice A (zl a) c, .slice B (len d) g] 26)).alloc (.cells #[.bool (ng b), .slice C (zl b) i, .slice D' (len e) k] 26)).alloc (.cells #[.bool false, .slice none 0 0, .slice none 0 0] 26) = W := ⟨_, rfl⟩
  rw [hW] at L ⊢
  clear hW
  have hgm0 := L.b0.lt
  have hgx : w.heap.size < W.heap.size := by omega
  have hgy : w.heap.size + 1 < W.heap.size := by omega
  have Q0 := Lib.hid (fun V (hV : Below W.heap.size W V) => (L.tl.tl.b0.mono hV).c30)
  have Q1 := Lib.hid (fun V (hV : Below W.heap.size W V) => (L.tl.tl.b0.mono hV).c31)
  have Q2 := Lib.hid (fun V (hV : Below W.heap.size W V) => (L.tl.tl.b0.mono hV).c32)
  have Q3 := Lib.hid (fun V (hV : Below W.heap.size W V) => (L.tl.b0.mono hV).c30)
  have Q4 := Lib.hid (fun V (hV : Below W.heap.size W V) => (L.tl.b0.mono hV).c31)
  have Q5 := Lib.hid (fun V (hV : Below W.heap.size W V) => (L.tl.b0.mono hV).c32)
  have HZa := Lib.hid (hza.mono L.below)
  have HZb := Lib.hid (hzb.mono L.below)
  have HNd := Lib.hid (hnd.mono L.below)
  have HNe := Lib.hid (hne.mono L.below)
  have LL := Lib.hid L
  clear L L0 hza hzb hnd hne
  have D0 : Dq W W [(.slice B (len d) g, d), (.slice D' (len e) k, e)] [(.agg #[.bool (ng a), .slice A (zl a) c], a), (.agg #[.bool (ng b), .slice C (zl b) i], b)] [] [] := ⟨((((Lq.mk0 W).z HZb.out).z HZa.out).n HNe.out).n HNd.out, List.nodup_nil, fun p hp => by cases hp⟩
  have D := D0.drew
  obtain ⟨M, hM⟩ : ∃ M, W.heap.size = M := ⟨_, rfl⟩
  have hz0 : M ≤ W.heap.size := by omega
  have hmx : w.heap.size < M := by omega
  have hmy : w.heap.size + 1 < M := by omega
  have hmd : W.drew.heap.size = M := hM
  go_cut [5] from 6 to 16 (fun s5 wx => Made1Z W p0 s5 wx)
  case first =>
    go_region_held3 (fun w' => w'.cell? ⟨w.heap.size, 0, none⟩ = some (.bool (ng a)) ∧ w'.cell? ⟨w.heap.size, 1, none⟩ = some (.slice A (zl a) c) ∧ w'.cell? ⟨w.heap.size, 2, none⟩ = some (.slice B (len d) g) ∧ w'.cell? ⟨w.heap.size + 1, 0, none⟩ = some (.bool (ng b)) ∧ w'.cell? ⟨w.heap.size + 1, 1, none⟩ = some (.slice C (zl b) i) ∧ w'.cell? ⟨w.heap.size + 1, 2, none⟩ = some (.slice D' (len e) k)) (((try dsimp only); refine ⟨?_, ?_, ?_, ?_, ?_, ?_⟩ <;> (repeat (first | (with_reducible exact Q0.out _ D.lq.below) | (with_reducible exact Q0.out _ D0.lq.below) | (with_reducible exact Q1.out _ D.lq.below) | (with_reducible exact Q1.out _ D0.lq.below) | (with_reducible exact Q2.out _ D.lq.below) | (with_reducible exact Q2.out _ D0.lq.below) | (with_reducible exact Q3.out _ D.lq.below) | (with_reducible exact Q3.out _ D0.lq.below) | (with_reducible exact Q4.out _ D.lq.below) | (with_reducible exact Q4.out _ D0.lq.below) | (with_reducible exact Q5.out _ D.lq.below) | (with_reducible exact Q5.out _ D0.lq.below) | (with_reducible refine c_alloc _ ?_) | (with_reducible refine c_drew ?_) | (with_reducible refine c_set ?_ (by assumption) ?_) | omega)))) (first | (go_at_call 59; (with_reducible refine (H1.out _ _ _ ?_ ?_ ).mono ?_); (· (first | (with_reducible refine D.getZ ?_; (repeat (first | (with_reducible exact List.mem_cons_self) | apply List.mem_cons_of_mem))) | (with_reducible refine (D.boxZ false none 0 0).getZ ?_; (repeat (first | (with_reducible exact List.mem_cons_self) | apply List.mem_cons_of_mem))) | (with_reducible refine (D0.boxZ false none 0 0).drew.getZ ?_; (repeat (first | (with_reducible exact List.mem_cons_self) | apply List.mem_cons_of_mem))))); (· (first | (with_reducible refine D.getN ?_; (repeat (first | (with_reducible exact List.mem_cons_self) | apply List.mem_cons_of_mem))) | (with_reducible refine (D.boxZ false none 0 0).getN ?_; (repeat (first | (with_reducible exact List.mem_cons_self) | apply List.mem_cons_of_mem))) | (with_reducible refine (D0.boxZ false none 0 0).drew.getN ?_; (repeat (first | (with_reducible exact List.mem_cons_self) | apply List.mem_cons_of_mem))))); rintro e wh ⟨vh, rfl, iz, be⟩; (first | (replace D := (D.step be).z iz) | (replace D := ((D.boxMZ hmd false none 0 0).step be).z iz) | (replace D := ((D.boxZ false none 0 0).step be).z iz)); have hz := be.size; (try simp at hz); (try (have x00 := D.lq.b0.c20; have x01 := D.lq.b0.c21; have y00 := D.lq.b0.fr 0; have y01 := D.lq.b0.fr 1)); (try obtain ⟨na, nb, nc, nd, nl⟩ := D.n0)) | (go_at_call 59; (with_reducible refine (H2.out _ _ _ ?_ ?_ ).mono ?_); (· (first | (with_reducible refine D.getZ ?_; (repeat (first | (with_reducible exact List.mem_cons_self) | apply List.mem_cons_of_mem))) | (with_reducible refine (D.boxZ false none 0 0).getZ ?_; (repeat (first | (with_reducible exact List.mem_cons_self) | apply List.mem_cons_of_mem))) | (with_reducible refine (D0.boxZ false none 0 0).drew.getZ ?_; (repeat (first | (with_reducible exact List.mem_cons_self) | apply List.mem_cons_of_mem))))); (· (first | (with_reducible refine D.getN ?_; (repeat (first | (with_reducible exact List.mem_cons_self) | apply List.mem_cons_of_mem))) | (with_reducible refine (D.boxZ false none 0 0).getN ?_; (repeat (first | (with_reducible exact List.mem_cons_self) | apply List.mem_cons_of_mem))) | (with_reducible refine (D0.boxZ false none 0 0).drew.getN ?_; (repeat (first | (with_reducible exact List.mem_cons_self) | apply List.mem_cons_of_mem))))); rintro e wh ⟨vh, rfl, iz, be⟩; (first | (replace D := (D.step be).z iz) | (replace D := ((D.boxMZ hmd false none 0 0).step be).z iz) | (replace D := ((D.boxZ false none 0 0).step be).z iz)); have hz := be.size; (try simp at hz); (try (have x00 := D.lq.b0.c20; have x01 := D.lq.b0.c21; have y00 := D.lq.b0.fr 0; have y01 := D.lq.b0.fr 1)); (try obtain ⟨na, nb, nc, nd, nl⟩ := D.n0)) | (go_at_call 62; (with_reducible refine (H4.out _ _ _ ?_ ?_ ).mono ?_); (· (first | (with_reducible refine D.getZ ?_; (repeat (first | (with_reducible exact List.mem_cons_self) | apply List.mem_cons_of_mem))) | (with_reducible refine (D.boxZ false none 0 0).getZ ?_; (repeat (first | (with_reducible exact List.mem_cons_self) | apply List.mem_cons_of_mem))) | (with_reducible refine (D0.boxZ false none 0 0).drew.getZ ?_; (repeat (first | (with_reducible exact List.mem_cons_self) | apply List.mem_cons_of_mem))))); (· (first | (with_reducible refine D.getZ ?_; (repeat (first | (with_reducible exact List.mem_cons_self) | apply List.mem_cons_of_mem))) | (with_reducible refine (D.boxZ false none 0 0).getZ ?_; (repeat (first | (with_reducible exact List.mem_cons_self) | apply List.mem_cons_of_mem))) | (with_reducible refine (D0.boxZ false none 0 0).drew.getZ ?_; (repeat (first | (with_reducible exact List.mem_cons_self) | apply List.mem_cons_of_mem))))); rintro e wh ⟨vh, rfl, iz, be⟩; (first | (replace D := (D.step be).z iz) | (replace D := ((D.boxMZ hmd false none 0 0).step be).z iz) | (replace D := ((D.boxZ false none 0 0).step be).z iz)); have hz := be.size; (try simp at hz); obtain ⟨A9, c9, rfl, _⟩ := iz.form; (try (have x00 := D.lq.b0.c20; have x01 := D.lq.b0.c21; have y00 := D.lq.b0.fr 0; have y01 := D.lq.b0.fr 1)); (try obtain ⟨na, nb, nc, nd, nl⟩ := D.n0)))
    all_goals
      go_wp2_with fail
      go_meet
      first
      | ((with_reducible refine made1z_a D ?_) <;> (repeat (first | (with_reducible exact List.mem_cons_self) | apply List.mem_cons_of_mem)))
      | ((with_reducible refine made1z_b D ?_) <;> (repeat (first | (with_reducible exact List.mem_cons_self) | apply List.mem_cons_of_mem)))
  case rest =>
    obtain ⟨g2, A3, c5, rfl, hg2, bw, hbx, hzz⟩ := hcut
    have L := ((LL.out.step bw).z hzz).b hbx
    clear D D0 hmd hz0 hmx hmy hgx hgy HZa HZb HNd HNe Q0 Q1 Q2 Q3 Q4 Q5 LL
    generalize wc = wd at *
    have hn1 : w.heap.size + 1 + 1 ≠ g2 := by omega
    have hn2 : w.heap.size + 1 ≠ g2 := by omega
    have hn3 : w.heap.size ≠ g2 := by omega
    have hn4 : w.heap.size + 2 ≠ g2 := by omega
    have hgw : w.heap.size ≤ g2 := by omega
    clear hg2 hM hgm0
    go_wp2_with fail
    replace L := L.swap.drew
    have c00 := L.b0.c30
    have f00 := L.b0.fr 0
    have c01 := L.b0.c31
    have f01 := L.b0.fr 1
    have c02 := L.b0.c32
    have f02 := L.b0.fr 2
    have c10 := L.tl.b0.c20
    have c11 := L.tl.b0.c21
    have c20 := L.tl.tl.b0.c30
    have c21 := L.tl.tl.b0.c31
    have c22 := L.tl.tl.b0.c32
    have c30 := L.tl.tl.tl.b0.c30
    have c31 := L.tl.tl.tl.b0.c31
    have c32 := L.tl.tl.tl.b0.c32
    have hdst : ∀ p ∈ [(g2, 24, (#[.bool (ng p0), .slice A3 (zl p0) c5] : Array Value)), (w.heap.size + 1, 26, #[.bool (ng b), .slice C (zl b) i, .slice D' (len e) k]), (w.heap.size, 26, #[.bool (ng a), .slice A (zl a) c, .slice B (len d) g])], p.1 ≠ w.heap.size + 2 := by
      intro p hp
      simp only [List.mem_cons, List.not_mem_nil, or_false] at hp
      rcases hp with rfl | rfl | rfl <;> simp <;> omega
    go_region_held3 (fun w' => w'.cell? ⟨g2, 0, none⟩ = some (.bool (ng p0)) ∧ w'.cell? ⟨g2, 1, none⟩ = some (.slice A3 (zl p0) c5) ∧ w'.cell? ⟨w.heap.size, 2, none⟩ = some (.slice B (len d) g) ∧ w'.cell? ⟨w.heap.size + 1, 2, none⟩ = some (.slice D' (len e) k)) (first | (with_reducible exact ⟨L.tl.b0.c20, L.tl.b0.c21, L.tl.tl.tl.b0.c32, L.tl.tl.b0.c32⟩) | exact ⟨L.tl.b0.c20, L.tl.b0.c21, L.tl.tl.tl.b0.c32, L.tl.tl.b0.c32⟩ | (have LP := L.putQ (by omega) hdst (ng rn) A9 B9 (zl rn) c9 (len rd) d9; exact ⟨LP.tl.b0.c20, LP.tl.b0.c21, LP.tl.tl.tl.b0.c32, LP.tl.tl.b0.c32⟩)) (first | (go_at_call 63; (with_reducible refine (H3.out _ _ _ ?_ ?_ ).mono ?_); (· (refine L.getN ?_; (repeat (first | (with_reducible exact List.mem_cons_self) | apply List.mem_cons_of_mem)))); (· (refine L.getN ?_; (repeat (first | (with_reducible exact List.mem_cons_self) | apply List.mem_cons_of_mem)))); rintro e wh ⟨vh, rfl, o9⟩; replace L := (L.step o9.below).n o9.isN; clear o9) | (go_at_call 47; (with_reducible refine (H5.out _ _ _ ?_ ?_ ).mono ?_); (· (refine L.getZ ?_; (repeat (first | (with_reducible exact List.mem_cons_self) | apply List.mem_cons_of_mem)))); (· (refine L.getN ?_; (repeat (first | (with_reducible exact List.mem_cons_self) | apply List.mem_cons_of_mem)))); rintro e wh ⟨vh, rfl, iq, be⟩; replace L := (L.step be).q iq; obtain ⟨A9, c9, B9, d9, rfl, _, _, _⟩ := iq.form; clear be iq; (try (have x00 := L.b0.c30; have x01 := L.b0.c31; have x02 := L.b0.c32; have y00 := L.b0.fr 0; have y01 := L.b0.fr 1; have y02 := L.b0.fr 2))))
    clear c00 f00 c01 f01 c02 f02 c10 c11 c20 c21 c22 c30 c31 c32
    go_wp2_with fail
    have LP := L.putQ (by omega) hdst (ng (rn)) A9 B9 (zl (rn)) c9 (len (rd)) d9
    have k0 := LP.b0.c30
    have k1 := LP.b0.c31
    have k2 := LP.b0.c32
    unfold put3 at k0 k1 k2
    exact bodyPost_ret (v := .agg #[.bool (ng (rn)), .slice A9 (zl (rn)) c9, .slice B9 (len (rd)) d9]) (by simp [results, Tryz.results19, go_sem, k0, k1, k2]) rfl ⟨_, rfl, LP.hq, LP.below⟩
set_option maxHeartbeats 2000000 in
theorem psub_any (a : Int) (d : Nat) (b : Int) (e : Nat) (vx vy : Value) (w : World) (hx : IsP w vx a d) (hy : IsP w vy b e) (la : zl a ≤ 1000000) (ld : len d ≤ 1000000) (lb : zl b ≤ 1000000) (le : len e ≤ 1000000) (hd0 : 0 < d) (he0 : 0 < e) :
    Calls Tryz.prog 21 #[vx, vy] w (RetQ w (Rat.divInt (a * (e : Int) + -b * (d : Int)) ((d : Int) * (e : Int)))) := by
  obtain ⟨A, c, B, g, rfl, hza, _, hnd⟩ := hx.form
  obtain ⟨C, i, D', k, rfl, hzb, _, hne⟩ := hy.form
  have L0 := ((((((Lq.mk0 w).q hx).q hy).z hza).z hzb).n hnd).n hne
  clear hx hy hza hzb hnd hne
  have hln := zl_neg b
  have h1 := fun v W h => pneg_any b e v W h (by omega) (by omega)
  have h2 := fun v u W k1 k2 => padd_any a d (-b) e v u W k1 k2 la ld (by omega) le hd0 he0
  obtain ⟨nb, hnb⟩ : ∃ nb, -b = nb := ⟨_, rfl⟩
  rw [hnb] at h1 h2 ⊢
  unfold RetQ at h2 ⊢
  have H1 := Lib.hid h1
  have H2 := Lib.hid h2
  clear h1 h2 hln hnb la ld lb le hd0 he0
  generalize (Rat.divInt (a * (e : Int) + nb * (d : Int)) ((d : Int) * (e : Int))).num = rn at *
  generalize (Rat.divInt (a * (e : Int) + nb * (d : Int)) ((d : Int) * (e : Int))).den = rd at *
  go_enter Tryz.func21, Tryz.ntmps21
  go_wp2_with fail
  have L := (((L0.varQ (w.heap.size) (by simp) (ng a) A B (zl a) c (len d) g).varQ (w.heap.size + 1) (by simp) (ng b) C D' (zl b) i (len e) k).varQ (w.heap.size + 2) (by simp) false none none 0 0 0 0)
  replace L := L.drew
  have c00 := L.b0.c30
  have f00 := L.b0.fr 0
  have c01 := L.b0.c31
  have f01 := L.b0.fr 1
  have c02 := L.b0.c32
  have f02 := L.b0.fr 2
  have c10 := L.tl.b0.c30
  have c11 := L.tl.b0.c31
  have c12 := L.tl.b0.c32
  have c20 := L.tl.tl.b0.c30
  have c21 := L.tl.tl.b0.c31
  have c22 := L.tl.tl.b0.c32
  go_region_held3 (fun w' => w'.cell? ⟨w.heap.size, 0, none⟩ = some (.bool (ng a)) ∧ w'.cell? ⟨w.heap.size, 1, none⟩ = some (.slice A (zl a) c) ∧ w'.cell? ⟨w.heap.size, 2, none⟩ = some (.slice B (len d) g) ∧ w'.cell? ⟨w.heap.size + 1, 0, none⟩ = some (.bool (ng b)) ∧ w'.cell? ⟨w.heap.size + 1, 1, none⟩ = some (.slice C (zl b) i) ∧ w'.cell? ⟨w.heap.size + 1, 2, none⟩ = some (.slice D' (len e) k)) (first | (with_reducible exact ⟨L.tl.tl.b0.c30, L.tl.tl.b0.c31, L.tl.tl.b0.c32, L.tl.b0.c30, L.tl.b0.c31, L.tl.b0.c32⟩) | exact ⟨L.tl.tl.b0.c30, L.tl.tl.b0.c31, L.tl.tl.b0.c32, L.tl.b0.c30, L.tl.b0.c31, L.tl.b0.c32⟩ | (have LP := L.putQ (by omega) (by first | (simp; done) | (simp; omega)) (ng rn) A9 B9 (zl rn) c9 (len rd) d9; exact ⟨LP.tl.tl.b0.c30, LP.tl.tl.b0.c31, LP.tl.tl.b0.c32, LP.tl.b0.c30, LP.tl.b0.c31, LP.tl.b0.c32⟩)) (first | (go_at_call 25; (with_reducible refine (H1.out _ _ ?_ ).mono ?_); (· (refine L.getQ ?_; (repeat (first | (with_reducible exact List.mem_cons_self) | apply List.mem_cons_of_mem)))); rintro e wh ⟨vh, rfl, iq, be⟩; replace L := (L.step be).q iq; clear be iq) | (go_at_call 19; (with_reducible refine (H2.out _ _ _ ?_ ?_ ).mono ?_); (· (refine L.getQ ?_; (repeat (first | (with_reducible exact List.mem_cons_self) | apply List.mem_cons_of_mem)))); (· (refine L.getQ ?_; (repeat (first | (with_reducible exact List.mem_cons_self) | apply List.mem_cons_of_mem)))); rintro e wh ⟨vh, rfl, iq, be⟩; replace L := (L.step be).q iq; obtain ⟨A9, c9, B9, d9, rfl, _, _, _⟩ := iq.form; clear be iq; (try (have x00 := L.b0.c30; have x01 := L.b0.c31; have x02 := L.b0.c32; have y00 := L.b0.fr 0; have y01 := L.b0.fr 1; have y02 := L.b0.fr 2))))
  clear c00 f00 c01 f01 c02 f02 c10 c11 c12 c20 c21 c22
  go_wp2_with fail
  have LP := L.putQ (by omega) (by first | (simp; done) | (simp; omega)) (ng (rn)) A9 B9 (zl (rn)) c9 (len (rd)) d9
  have k0 := LP.b0.c30
  have k1 := LP.b0.c31
  have k2 := LP.b0.c32
  unfold put3 at k0 k1 k2
  exact bodyPost_ret (v := .agg #[.bool (ng (rn)), .slice A9 (zl (rn)) c9, .slice B9 (len (rd)) d9]) (by simp [results, Tryz.results21, go_sem, k0, k1, k2]) rfl ⟨_, rfl, LP.hq, LP.below⟩

end Go.Proofs.YtbndgggjfjdfbaaGreatDoor
