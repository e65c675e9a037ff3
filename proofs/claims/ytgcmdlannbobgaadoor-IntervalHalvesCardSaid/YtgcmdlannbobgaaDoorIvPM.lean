/- The program's interval: Meet. -/
import Derived.Test.YtgcmdlannbobgaaDoorIvPC
import Derived.Test.YtgcmdlannbobgaaDoorIvWays
import Derived.Deep.RegionHeld3
import Derived.Deep.DrawnRows
import Derived.Deep.Cut
import Derived.Deep.CutRange
namespace Go.Proofs.YtgcmdlannbobgaaDoor
open Go.RowKit
set_option linter.unusedVariables false
set_option linter.unusedSimpArgs false
set_option maxRecDepth 100000
attribute [local go_sem ↓] Go.wp_at_zero Go.wp_at_succ

set_option maxHeartbeats 16000000 in
theorem i10meet_any (m e n f m2 e2 n2 f2 : Int) (vx vy : Value) (w : World) (hx : IsI w vx m e n f) (hy : IsI w vy m2 e2 n2 f2) (lm : zl m ≤ 1000) (ln : zl n ≤ 1000) (lm2 : zl m2 ≤ 1000) (ln2 : zl n2 ≤ 1000) (he : -20000 ≤ e ∧ e ≤ 20000) (hf : -20000 ≤ f ∧ f ≤ 20000) (he2 : -20000 ≤ e2 ∧ e2 ≤ 20000) (hf2 : -20000 ≤ f2 ∧ f2 ≤ 20000) (hv1 : Dv m e) (hv2 : Dv n f) (hv3 : Dv m2 e2) (hv4 : Dv n2 f2) :
    Calls Tryd.prog 21 #[vx, vy] w (RetMt w m e n f m2 e2 n2 f2) := by
  obtain ⟨A, c, B, d, rfl, hn1, hn2⟩ := hx.form
  obtain ⟨A2, k2, B2, d2, rfl, hn3, hn4⟩ := hy.form
  have L0 := ((((Lq.mk0 w).n hn4).n hn3).n hn2).n hn1
  have h1 := fun v u W k1 k2 => igreater_any m e m2 e2 v u W k1 k2 lm lm2 he he2 hv1 hv3
  have h2 := fun v u W k1 k2 => ilesser_any n f n2 f2 v u W k1 k2 ln ln2 hf hf2
  have z1 := gstD_zl lm lm2 (e := e) (f := e2)
  have z2 := lstD_zl ln ln2 (e := f) (f := f2)
  have i1 := gstD_in he he2 (m := m) (n := m2)
  have i2 := lstD_in hf hf2 (m := n) (n := n2)
  have y1 := gstD_dv hv1 hv3
  have y2 := lstD_dv hv2 hv4
  unfold RetMt mtB
  obtain ⟨um, ue, hu⟩ : ∃ x y, gstD m e m2 e2 = (x, y) := ⟨_, _, rfl⟩
  obtain ⟨zm, ze, hz⟩ : ∃ x y, lstD n f n2 f2 = (x, y) := ⟨_, _, rfl⟩
  rw [hu] at h1 z1 i1 y1 ⊢
  rw [hz] at h2 z2 i2 y2 ⊢
  simp only at z1 z2 i1 i2 y1 y2
  have hm := fun v u W k1 k2 => i10make_any um ue zm ze v u W k1 k2 z1 z2 i1 i2 y1 y2
  have H1 := Lib.hid h1
  have H2 := Lib.hid h2
  dsimp only
  obtain ⟨M, E, N, G, er, b, hmk, her, hend⟩ : ∃ M E N G er : Int, ∃ b : Bool, (∀ W, RetMk W um ue zm ze = RetIE W M E N G er) ∧ (er == 0) = b ∧ (if decide (dcm um ue zm ze ≤ 0) = true then RetIV w um ue zm ze true else RetIV w 0 0 0 0 false) = RetIV w M E N G b := by
    by_cases q : dcm um ue zm ze ≤ 0
    · exact ⟨um, ue, zm, ze, 0, true, fun W => by unfold RetMk; rw [if_pos q], rfl, by rw [if_pos (decide_eq_true q)]⟩
    · exact ⟨0, 0, 0, 0, 1, false, fun W => by unfold RetMk; rw [if_neg q], rfl, by rw [if_neg (by simpa using q)]⟩
  rw [hend]
  have hm2 : ∀ v u W, IsD W v um ue → IsD W u zm ze → Calls Tryd.prog 20 #[v, u] W (RetIE W M E N G er) := fun v u W k1 k2 => by
    rw [← hmk]
    exact hm v u W k1 k2
  have HM := Lib.hid hm2
  clear hm hm2 hmk hend h1 h2 hu hz hx hy hn1 hn2 hn3 hn4 lm ln lm2 ln2 he hf he2 hf2 hv1 hv2 hv3 hv4 z1 z2 i1 i2 y1 y2
  go_enter Tryd.func21, Tryd.ntmps21
  go_wp2_with fail
  have L := (((L0.varI (w.heap.size) (by simp) (ng m) A (zl m) c e (ng n) B (zl n) d f).varI (w.heap.size + 1) (by simp) (ng m2) A2 (zl m2) k2 e2 (ng n2) B2 (zl n2) d2 f2).varI (w.heap.size + 2) (by simp) false none 0 0 0 false none 0 0 0)
  (try go_wp2_with fail)
  obtain ⟨V9, hV⟩ : ∃ V9, ((w.alloc (.cells #[.bool (ng m), .slice A (zl m) c, .int .i64 e, .bool (ng n), .slice B (zl n) d, .int .i64 f] 28)).alloc (.cells #[.bool (ng m2), .slice A2 (zl m2) k2, .int .i64 e2, .bool (ng n2), .slice B2 (zl n2) d2, .int .i64 f2] 28)).alloc (.cells #[.bool false, .slice none 0 0, .int .i64 0, .bool false, .slice none 0 0, .int .i64 0] 28) = V9 := ⟨_, rfl⟩
  rw [hV] at L ⊢
  clear hV
  have Q0 := Lib.hid (fun Z (hZ : Below V9.heap.size V9 Z) => (L.tl.tl.b0.mono hZ).c60)
  have Q1 := Lib.hid (fun Z (hZ : Below V9.heap.size V9 Z) => (L.tl.tl.b0.mono hZ).c61)
  have Q2 := Lib.hid (fun Z (hZ : Below V9.heap.size V9 Z) => (L.tl.tl.b0.mono hZ).c62)
  have Q3 := Lib.hid (fun Z (hZ : Below V9.heap.size V9 Z) => (L.tl.tl.b0.mono hZ).c63)
  have Q4 := Lib.hid (fun Z (hZ : Below V9.heap.size V9 Z) => (L.tl.tl.b0.mono hZ).c64)
  have Q5 := Lib.hid (fun Z (hZ : Below V9.heap.size V9 Z) => (L.tl.tl.b0.mono hZ).c65)
  have Q6 := Lib.hid (fun Z (hZ : Below V9.heap.size V9 Z) => (L.tl.b0.mono hZ).c60)
  have Q7 := Lib.hid (fun Z (hZ : Below V9.heap.size V9 Z) => (L.tl.b0.mono hZ).c61)
  have Q8 := Lib.hid (fun Z (hZ : Below V9.heap.size V9 Z) => (L.tl.b0.mono hZ).c62)
  have Q9 := Lib.hid (fun Z (hZ : Below V9.heap.size V9 Z) => (L.tl.b0.mono hZ).c63)
  have Q10 := Lib.hid (fun Z (hZ : Below V9.heap.size V9 Z) => (L.tl.b0.mono hZ).c64)
  have Q11 := Lib.hid (fun Z (hZ : Below V9.heap.size V9 Z) => (L.tl.b0.mono hZ).c65)
  have hb1 := L.tl.tl.b0.lt
  have hb2 := L.tl.b0.lt
  have D0 : Dq V9 V9 [(.slice A (zl m) c, m.natAbs), (.slice B (zl n) d, n.natAbs), (.slice A2 (zl m2) k2, m2.natAbs), (.slice B2 (zl n2) d2, n2.natAbs)] [] [] [] := ⟨((((Lq.mk0 V9).n (L.getN (v := .slice B2 (zl n2) d2) (x := (n2).natAbs) (by simp))).n (L.getN (v := .slice A2 (zl m2) k2) (x := (m2).natAbs) (by simp))).n (L.getN (v := .slice B (zl n) d) (x := (n).natAbs) (by simp))).n (L.getN (v := .slice A (zl m) c) (x := (m).natAbs) (by simp)), List.nodup_nil, fun p hp => by cases hp⟩
  have D := D0.drew
  have LL := Lib.hid L
  clear L
  obtain ⟨K, hK⟩ : ∃ K, V9.heap.size = K := ⟨_, rfl⟩
  have hz0 : K ≤ V9.heap.size := by omega
  have hc1 : w.heap.size < K := by omega
  have hc2 : w.heap.size + 1 < K := by omega
  have hmd : V9.drew.heap.size = K := hK
  go_cut [6, 7] from 8 to 22 (fun s6 s7 wx => s7 = .int .i64 er ∧ Made1I V9 M E N G s6 wx)
  case first =>
    go_region_held3 (fun w' => w'.cell? ⟨w.heap.size, 0, none⟩ = some (.bool (ng m)) ∧ w'.cell? ⟨w.heap.size, 1, none⟩ = some (.slice A (zl m) c) ∧ w'.cell? ⟨w.heap.size, 2, none⟩ = some (.int .i64 e) ∧ w'.cell? ⟨w.heap.size, 3, none⟩ = some (.bool (ng n)) ∧ w'.cell? ⟨w.heap.size, 4, none⟩ = some (.slice B (zl n) d) ∧ w'.cell? ⟨w.heap.size, 5, none⟩ = some (.int .i64 f) ∧ w'.cell? ⟨w.heap.size + 1, 0, none⟩ = some (.bool (ng m2)) ∧ w'.cell? ⟨w.heap.size + 1, 1, none⟩ = some (.slice A2 (zl m2) k2) ∧ w'.cell? ⟨w.heap.size + 1, 2, none⟩ = some (.int .i64 e2) ∧ w'.cell? ⟨w.heap.size + 1, 3, none⟩ = some (.bool (ng n2)) ∧ w'.cell? ⟨w.heap.size + 1, 4, none⟩ = some (.slice B2 (zl n2) d2) ∧ w'.cell? ⟨w.heap.size + 1, 5, none⟩ = some (.int .i64 f2)) (((try dsimp only); refine ⟨?_, ?_, ?_, ?_, ?_, ?_, ?_, ?_, ?_, ?_, ?_, ?_⟩ <;> (repeat (first | (with_reducible exact Q0.out _ D.lq.below) | (with_reducible exact Q0.out _ D0.lq.below) | (with_reducible exact Q1.out _ D.lq.below) | (with_reducible exact Q1.out _ D0.lq.below) | (with_reducible exact Q2.out _ D.lq.below) | (with_reducible exact Q2.out _ D0.lq.below) | (with_reducible exact Q3.out _ D.lq.below) | (with_reducible exact Q3.out _ D0.lq.below) | (with_reducible exact Q4.out _ D.lq.below) | (with_reducible exact Q4.out _ D0.lq.below) | (with_reducible exact Q5.out _ D.lq.below) | (with_reducible exact Q5.out _ D0.lq.below) | (with_reducible exact Q6.out _ D.lq.below) | (with_reducible exact Q6.out _ D0.lq.below) | (with_reducible exact Q7.out _ D.lq.below) | (with_reducible exact Q7.out _ D0.lq.below) | (with_reducible exact Q8.out _ D.lq.below) | (with_reducible exact Q8.out _ D0.lq.below) | (with_reducible exact Q9.out _ D.lq.below) | (with_reducible exact Q9.out _ D0.lq.below) | (with_reducible exact Q10.out _ D.lq.below) | (with_reducible exact Q10.out _ D0.lq.below) | (with_reducible exact Q11.out _ D.lq.below) | (with_reducible exact Q11.out _ D0.lq.below) | (with_reducible refine c_alloc _ ?_) | (with_reducible refine c_drew ?_) | (with_reducible refine c_set ?_ (by assumption) ?_) | omega)))) (first | (go_at_call 50; (with_reducible refine (H1.out _ _ _ ?_ ?_).mono ?_); (· (first | (with_reducible refine isD_n (D.getN ?_); (repeat (first | (with_reducible exact List.mem_cons_self) | apply List.mem_cons_of_mem))) | (with_reducible refine isD_n ((D.boxI false none 0 0 0 false none 0 0 0).getN ?_); (repeat (first | (with_reducible exact List.mem_cons_self) | apply List.mem_cons_of_mem))) | (with_reducible refine isD_n ((D0.boxI false none 0 0 0 false none 0 0 0).drew.getN ?_); (repeat (first | (with_reducible exact List.mem_cons_self) | apply List.mem_cons_of_mem))))); (· (first | (with_reducible refine isD_n (D.getN ?_); (repeat (first | (with_reducible exact List.mem_cons_self) | apply List.mem_cons_of_mem))) | (with_reducible refine isD_n ((D.boxI false none 0 0 0 false none 0 0 0).getN ?_); (repeat (first | (with_reducible exact List.mem_cons_self) | apply List.mem_cons_of_mem))) | (with_reducible refine isD_n ((D0.boxI false none 0 0 0 false none 0 0 0).drew.getN ?_); (repeat (first | (with_reducible exact List.mem_cons_self) | apply List.mem_cons_of_mem))))); rintro e9 wh ⟨vh, rfl, id, be⟩; obtain ⟨A8, c8, rfl, _, in9⟩ := id.form; (first | (replace D := D.step be) | (replace D := (D.boxMI hmd false none 0 0 0 false none 0 0 0).step be) | (replace D := (D.boxI false none 0 0 0 false none 0 0 0).step be)); have hz := be.size; (try simp at hz); replace D := D.n in9; clear id in9; (try (have x00 := D.lq.b0.c60; have y00 := D.lq.b0.fr 0; have x01 := D.lq.b0.c61; have y01 := D.lq.b0.fr 1; have x02 := D.lq.b0.c62; have y02 := D.lq.b0.fr 2; have x03 := D.lq.b0.c63; have y03 := D.lq.b0.fr 3; have x04 := D.lq.b0.c64; have y04 := D.lq.b0.fr 4; have x05 := D.lq.b0.c65; have y05 := D.lq.b0.fr 5)); (try obtain ⟨na, nb, nc, nd, nl⟩ := D.n0)) | (go_at_call 51; (with_reducible refine (H2.out _ _ _ ?_ ?_).mono ?_); (· (first | (with_reducible refine isD_n (D.getN ?_); (repeat (first | (with_reducible exact List.mem_cons_self) | apply List.mem_cons_of_mem))) | (with_reducible refine isD_n ((D.boxI false none 0 0 0 false none 0 0 0).getN ?_); (repeat (first | (with_reducible exact List.mem_cons_self) | apply List.mem_cons_of_mem))) | (with_reducible refine isD_n ((D0.boxI false none 0 0 0 false none 0 0 0).drew.getN ?_); (repeat (first | (with_reducible exact List.mem_cons_self) | apply List.mem_cons_of_mem))))); (· (first | (with_reducible refine isD_n (D.getN ?_); (repeat (first | (with_reducible exact List.mem_cons_self) | apply List.mem_cons_of_mem))) | (with_reducible refine isD_n ((D.boxI false none 0 0 0 false none 0 0 0).getN ?_); (repeat (first | (with_reducible exact List.mem_cons_self) | apply List.mem_cons_of_mem))) | (with_reducible refine isD_n ((D0.boxI false none 0 0 0 false none 0 0 0).drew.getN ?_); (repeat (first | (with_reducible exact List.mem_cons_self) | apply List.mem_cons_of_mem))))); rintro e9 wh ⟨vh, rfl, id, be⟩; obtain ⟨A9, c9, rfl, _, in9⟩ := id.form; (first | (replace D := D.step be) | (replace D := (D.boxMI hmd false none 0 0 0 false none 0 0 0).step be) | (replace D := (D.boxI false none 0 0 0 false none 0 0 0).step be)); have hz := be.size; (try simp at hz); replace D := D.n in9; clear id in9; (try (have x00 := D.lq.b0.c60; have y00 := D.lq.b0.fr 0; have x01 := D.lq.b0.c61; have y01 := D.lq.b0.fr 1; have x02 := D.lq.b0.c62; have y02 := D.lq.b0.fr 2; have x03 := D.lq.b0.c63; have y03 := D.lq.b0.fr 3; have x04 := D.lq.b0.c64; have y04 := D.lq.b0.fr 4; have x05 := D.lq.b0.c65; have y05 := D.lq.b0.fr 5)); (try obtain ⟨na, nb, nc, nd, nl⟩ := D.n0)) | (go_at_call 20; (with_reducible refine (HM.out _ _ _ ?_ ?_).mono ?_); (· (first | (with_reducible refine isD_n (D.getN ?_); (repeat (first | (with_reducible exact List.mem_cons_self) | apply List.mem_cons_of_mem))) | (with_reducible refine isD_n ((D.boxI false none 0 0 0 false none 0 0 0).getN ?_); (repeat (first | (with_reducible exact List.mem_cons_self) | apply List.mem_cons_of_mem))) | (with_reducible refine isD_n ((D0.boxI false none 0 0 0 false none 0 0 0).drew.getN ?_); (repeat (first | (with_reducible exact List.mem_cons_self) | apply List.mem_cons_of_mem))))); (· (first | (with_reducible refine isD_n (D.getN ?_); (repeat (first | (with_reducible exact List.mem_cons_self) | apply List.mem_cons_of_mem))) | (with_reducible refine isD_n ((D.boxI false none 0 0 0 false none 0 0 0).getN ?_); (repeat (first | (with_reducible exact List.mem_cons_self) | apply List.mem_cons_of_mem))) | (with_reducible refine isD_n ((D0.boxI false none 0 0 0 false none 0 0 0).drew.getN ?_); (repeat (first | (with_reducible exact List.mem_cons_self) | apply List.mem_cons_of_mem))))); rintro e9 wh ⟨vh, rfl, ii, be⟩; obtain ⟨A7, c7, B7, d7, rfl, ia, ib⟩ := ii.form; (first | (replace D := D.step be) | (replace D := (D.boxMI hmd false none 0 0 0 false none 0 0 0).step be) | (replace D := (D.boxI false none 0 0 0 false none 0 0 0).step be)); have hz := be.size; (try simp at hz); replace D := (D.n ib).n ia; clear ii ia ib; (try (have x00 := D.lq.b0.c60; have y00 := D.lq.b0.fr 0; have x01 := D.lq.b0.c61; have y01 := D.lq.b0.fr 1; have x02 := D.lq.b0.c62; have y02 := D.lq.b0.fr 2; have x03 := D.lq.b0.c63; have y03 := D.lq.b0.fr 3; have x04 := D.lq.b0.c64; have y04 := D.lq.b0.fr 4; have x05 := D.lq.b0.c65; have y05 := D.lq.b0.fr 5)); (try obtain ⟨na, nb, nc, nd, nl⟩ := D.n0)))
    all_goals
      go_wp2_with fail
      go_meet
      refine ⟨rfl, ?_⟩
      first
      | ((with_reducible refine made1i_a D ?_ ?_) <;> (repeat (first | (with_reducible exact List.mem_cons_self) | apply List.mem_cons_of_mem)))
      | ((with_reducible refine made1i_b D ?_ ?_) <;> (repeat (first | (with_reducible exact List.mem_cons_self) | apply List.mem_cons_of_mem)))
  case rest =>
    obtain ⟨rfl, gm, A7, c7, B7, d7, rfl, hg, bw, hb3, q1, q2⟩ := hcut
    have hg4 := LL.out.b0.lt
    have L := (((LL.out.step bw).n q2).n q1).b hb3
    clear D D0 hmd hz0 hK LL hb3 q1 q2 bw Q0 Q1 Q2 Q3 Q4 Q5 Q6 Q7 Q8 Q9 Q10 Q11
    have e1 : w.heap.size + 1 + 1 ≠ gm := by omega
    generalize wc = wd at *
    have hlt9 := L.b0.lt
    replace L := L.swap
    have c00 := L.b0.c60
    have f00 := L.b0.fr 0
    have c01 := L.b0.c61
    have f01 := L.b0.fr 1
    have c02 := L.b0.c62
    have f02 := L.b0.fr 2
    have c03 := L.b0.c63
    have f03 := L.b0.fr 3
    have c04 := L.b0.c64
    have f04 := L.b0.fr 4
    have c05 := L.b0.c65
    have f05 := L.b0.fr 5
    have c10 := L.tl.b0.c60
    have c11 := L.tl.b0.c61
    have c12 := L.tl.b0.c62
    have c13 := L.tl.b0.c63
    have c14 := L.tl.b0.c64
    have c15 := L.tl.b0.c65
    go_wp2_with fail
    have LP := L.putI (by omega) (by simp [Ne.symm e1]) (ng M) A7 (zl M) c7 E (ng N) B7 (zl N) d7 G
    have k0 := LP.b0.c60
    have k1 := LP.b0.c61
    have k2 := LP.b0.c62
    have k3 := LP.b0.c63
    have k4 := LP.b0.c64
    have k5 := LP.b0.c65
    unfold put6 at k0 k1 k2 k3 k4 k5
    exact bodyPost_ret (v := .tuple #[.agg #[.bool (ng M), .slice A7 (zl M) c7, .int .i64 E, .bool (ng N), .slice B7 (zl N) d7, .int .i64 G], .bool b]) (by simp [results, Tryd.results21, go_sem, k0, k1, k2, k3, k4, k5]) rfl ⟨_, rfl, isI_n (LP.getN (by simp)) (LP.getN (by simp)), LP.below⟩

end Go.Proofs.YtgcmdlannbobgaaDoor
