/- The walk of ExponentialEnds: whatever the input, the law returns true and turns nothing that was there. -/
import Derived.Test.YtnnfldkllhdhjaaGreatDoorJP3
import Derived.Test.YtnnfldkllhdhjaaGreatDoorBaseDP
import Derived.Test.YtnnfldkllhdhjaaGreatDoorBaseVP
import Derived.Deep.RegionHeld3
import Derived.Deep.DrawnRows
import Derived.Deep.Cut
import Derived.Deep.CutRange
namespace Go.Proofs.YtnnfldkllhdhjaaGreatDoor
open Go.RowKit
set_option linter.unusedVariables false
set_option linter.unusedSimpArgs false
set_option maxRecDepth 100000
attribute [local go_sem ↓] Go.wp_at_zero Go.wp_at_succ

theorem n1000 : zl (mkM 1000 0) ≤ 1 ∧ (0 ≤ mkE 1000 0 ∧ mkE 1000 0 ≤ 32) ∧ dq (mkM 1000 0) (mkE 1000 0) = 1000 := by
  have h : AbP 1000 10 := by unfold AbP; decide
  obtain ⟨a1, _, a3, _, _, a6⟩ := nf h (by omega)
  have z2 := mkE_at a1 h.zl
  exact ⟨Nat.le_trans (zl_mk _ _) (Nat.le_trans h.zl (by omega)), by omega, by rw [a6]; rfl⟩
/-- A little more than 1000. -/
theorem more1000 {r : Nat} (h : r < 60) : mkR (addS (mkM 1000 0) (mkE 1000 0) 1 (-(r : Int))) (min (mkE 1000 0) (-(r : Int))) = 0 ∧ zl (mkM (addS (mkM 1000 0) (mkE 1000 0) 1 (-(r : Int))) (min (mkE 1000 0) (-(r : Int)))) ≤ 60 ∧
    (-3000 ≤ mkE (addS (mkM 1000 0) (mkE 1000 0) 1 (-(r : Int))) (min (mkE 1000 0) (-(r : Int))) ∧ mkE (addS (mkM 1000 0) (mkE 1000 0) 1 (-(r : Int))) (min (mkE 1000 0) (-(r : Int))) ≤ 3000) ∧
    Dv (mkM (addS (mkM 1000 0) (mkE 1000 0) 1 (-(r : Int))) (min (mkE 1000 0) (-(r : Int)))) (mkE (addS (mkM 1000 0) (mkE 1000 0) 1 (-(r : Int))) (min (mkE 1000 0) (-(r : Int)))) ∧
    1000 < dq (mkM (addS (mkM 1000 0) (mkE 1000 0) 1 (-(r : Int))) (min (mkE 1000 0) (-(r : Int)))) (mkE (addS (mkM 1000 0) (mkE 1000 0) 1 (-(r : Int))) (min (mkE 1000 0) (-(r : Int)))) ∧
    dq (mkM (addS (mkM 1000 0) (mkE 1000 0) 1 (-(r : Int))) (min (mkE 1000 0) (-(r : Int)))) (mkE (addS (mkM 1000 0) (mkE 1000 0) 1 (-(r : Int))) (min (mkE 1000 0) (-(r : Int)))) ≤ 1001 := by
  obtain ⟨z1, z2, z3⟩ := n1000
  have z4 : zl 1 ≤ 1 := zl_c 1 (by decide)
  have hz := zl_addS (mkM 1000 0) (mkE 1000 0) 1 (-(r : Int)) 60 (by omega) (by omega)
  have hr : mkR (addS (mkM 1000 0) (mkE 1000 0) 1 (-(r : Int))) (min (mkE 1000 0) (-(r : Int))) = 0 := mk_fits2 (by omega) (by omega) (by omega)
  have e1 := zl_mk (addS (mkM 1000 0) (mkE 1000 0) 1 (-(r : Int))) (min (mkE 1000 0) (-(r : Int)))
  have e2 := mkE_at hr (k := 12) (by omega)
  refine ⟨hr, by omega, by omega, mk_ok hr, ?_, ?_⟩ <;> rw [dq_mk hr, dq_add, z3]
  · have := dq_pos (-(r : Int))
    generalize dq 1 (-(r : Int)) = u at *
    clear hz e1 e2
    grind
  · have := dq_anti (a := -(r : Int)) (b := 0) (by omega)
    have v0 : dq 1 0 = 1 := by decide +kernel
    rw [v0] at this
    generalize dq 1 (-(r : Int)) = u at *
    clear hz e1 e2
    grind
theorem large14 {m e n f M E : Int} (h : ArgX 8 m e n f) (zM : zl M ≤ 60) (eM : -3000 ≤ E ∧ E ≤ 3000) (h1 : 1000 < dq M E) (h2 : dq M E ≤ 1001) : smallB m e M E = true ∧ ¬ dq M E ≤ 1000 := by
  obtain ⟨_, tm, _, lo, hi⟩ := h.all (by omega)
  have hle := h.le
  have v11 : dq 1 11 = 2048 := by decide +kernel
  have tM : topZ M E ≤ 11 := by
    refine (top_iff (by omega)).2 ?_
    rw [v11]
    generalize dq M E = p at *
    clear h
    constructor <;> grind
  have em := h.em
  refine ⟨small14 h.zm zM (by omega) (by omega) ((dcm_le _ _ _ _).2 ?_) (by omega) (by omega), Rat.not_le.2 h1⟩
  generalize dq M E = p at *
  generalize dq m e = q at *
  generalize dq n f = q2 at *
  clear h
  grind

set_option maxHeartbeats 64000000 in
theorem walk_ExponentialEnds (b0 : Bool) (a0 : Option Addr) (len0 cap0 : Nat) (z0 : List Nat) (f0 : Int) (bb0 : Bool) (aa0 : Option Addr) (ll0 cc0 : Nat) (zz0 : List Nat) (ff0 : Int) (a1 : Int) (a2 : Int) (w : World) (h0 : Sl w a0 len0 cap0 z0 ∧ -9223372036854775808 ≤ f0 ∧ f0 ≤ 9223372036854775807) (k0 : Sl w aa0 ll0 cc0 zz0 ∧ -9223372036854775808 ≤ ff0 ∧ ff0 ≤ 9223372036854775807) (h1 : -9223372036854775808 ≤ a1 ∧ a1 ≤ 9223372036854775807) (h2 : -9223372036854775808 ≤ a2 ∧ a2 ≤ 9223372036854775807) (hT : Tab w) :
    Calls Tryz.prog 5 #[.agg #[.bool b0, .slice a0 len0 cap0, .int .i64 f0, .bool bb0, .slice aa0 ll0 cc0, .int .i64 ff0], .int .i64 a1, .int .i64 a2] w (fun e w' => e = .returned (.bool true) ∧ Below w.heap.size w w') := by
  have HT := Lib.hid (fun W (hW : Below w.heap.size w W) => hT.mono hW)
  clear hT
  go_enter Tryz.func5, Tryz.ntmps5
  go_wp2_with fail
  have L := ((Lq.mk0 w).varI (w.heap.size) (by simp) b0 a0 len0 cap0 f0 bb0 aa0 ll0 cc0 ff0)
  (try go_wp2_with fail)
  refine (awake14_any _ (HT.out _ L.below)).mono ?_
  rintro e9 w1 ⟨rfl, be⟩
  replace L := L.step be
  clear be
  have c00 := L.b0.c60
  have c01 := L.b0.c61
  have c02 := L.b0.c62
  have c03 := L.b0.c63
  have c04 := L.b0.c64
  have c05 := L.b0.c65
  (try go_wp2_with fail)
  refine (s14arg_any b0 bb0 z0 zz0 a0 aa0 len0 cap0 ll0 cc0 f0 ff0 8 _ (h0.1.mono L.below) (k0.1.mono L.below) h0.2.1 h0.2.2 k0.2.1 k0.2.2 (by omega)).mono ?_
  rintro e9 w2 ⟨vx, ok, m, e, n, f, rfl, ii, be, hok⟩
  clear c00 c01 c02 c03 c04 c05
  obtain ⟨A, c, B, d, rfl, ia, ib⟩ := ii.form
  replace L := ((L.step be).n ib).n ia
  clear be ii ia ib
  have hl9 := L.b0.lt
  replace L := L.varI w2.heap.size rfl (ng m) A (zl m) c e (ng n) B (zl n) d f
  cases ok
  · go_wp2_with fail
    go_ret
    exact ⟨rfl, L.below⟩
  obtain ⟨j, hj, hr, t1, t2⟩ := hok rfl
  have hX := ArgX.of hr hj t1 t2
  obtain ⟨r1, hr1⟩ : ∃ r : Nat, a2 % 5 = (r : Int) := ⟨(a2 % 5).toNat, by omega⟩
  obtain ⟨r2, hr2⟩ : ∃ r : Nat, a1 % 60 = (r : Int) := ⟨(a1 % 60).toNat, by omega⟩
  obtain ⟨r3, hr3⟩ : ∃ r : Nat, a2 % 40 = (r : Int) := ⟨(a2 % 40).toNat, by omega⟩
  have o1 := fun W => mod_any a2 5 W (by omega) (by omega) h2.1 h2.2
  have o2 := fun W => mod_any a1 60 W (by omega) (by omega) h1.1 h1.2
  have o3 := fun W => mod_any a2 40 W (by omega) (by omega) h2.1 h2.2
  rw [hr1] at o1
  rw [hr2] at o2
  rw [hr3] at o3
  have br2 : r2 < 60 := by omega
  have br3 : r3 < 40 := by omega
  have MO1 := Lib.hid o1
  have MO2 := Lib.hid o2
  have MO3 := Lib.hid o3
  obtain ⟨k1, hk1⟩ : ∃ z, -1 - (r1 : Int) = z := ⟨_, rfl⟩
  obtain ⟨k2, hk2⟩ : ∃ z, 4097 + (r1 : Int) = z := ⟨_, rfl⟩
  obtain ⟨k3, hk3⟩ : ∃ z, -(r2 : Int) = z := ⟨_, rfl⟩
  have wq1 : IntKind.i64.wrap (-1 - (r1 : Int)) = k1 := by rw [IntKind.wrap_i64]; omega
  have wq2 : IntKind.i64.wrap (4097 + (r1 : Int)) = k2 := by rw [IntKind.wrap_i64]; omega
  have wq3 : IntKind.i64.wrap (-(r2 : Int)) = k3 := by rw [IntKind.wrap_i64]; omega
  have ok1 : okX k1 0 = false := by
    unfold okX
    rw [decide_eq_false (show ¬ 0 ≤ k1 by omega)]
    rfl
  have ok2 : okX k2 0 = false := by
    unfold okX
    rw [decide_eq_false (show ¬ k2 ≤ 4096 by omega), Bool.and_false]
  obtain ⟨o4, o5, o6⟩ := mk_one14 r2 (by omega)
  have z1 := hX.zm
  have z2 := hX.zn
  have b1 := hX.em
  have b2 := hX.en
  have z11 : zl 1 ≤ 1 := zl_c 1 (by decide)
  obtain ⟨z3, z4, z5⟩ := n1000
  obtain ⟨p1, p2, p3, p4, p5, p6⟩ := more1000 br2
  rw [hk3] at p1 p2 p3 p4 p5 p6 o4 o5 o6
  obtain ⟨M, hM⟩ : ∃ z, mkM (addS (mkM 1000 0) (mkE 1000 0) 1 k3) (min (mkE 1000 0) k3) = z := ⟨_, rfl⟩
  obtain ⟨E, hE⟩ : ∃ z, mkE (addS (mkM 1000 0) (mkE 1000 0) 1 k3) (min (mkE 1000 0) k3) = z := ⟨_, rfl⟩
  rw [hM] at p2 p4 p5 p6
  rw [hE] at p3 p4 p5 p6
  obtain ⟨s1, s2⟩ := large14 hX p2 p3 p5 p6
  have g1 := fun v W h => xexp_arg m e n f k1 v W h ok1
  have g2 := fun v W h => xexp_arg m e n f k2 v W h ok2
  have g3 := fun W => rof8_any 1 W (by omega) (by omega)
  have q10 : mkM 1 0 = 1 ∧ mkE 1 0 = 0 := by
    have := mk_one14 0 (by omega)
    exact ⟨this.1, this.2.1⟩
  rw [q10.1, q10.2] at g3
  have g4 := fun v W h => rmake8_any 1 k3 v W h (by omega)
  rw [o4, o5, o6] at g4
  have g5 := fun W => rof8_any 1000 W (by omega) (by omega)
  have g6 := fun v u W h k9 => radd8_any (mkM 1000 0) (mkE 1000 0) 1 k3 v u W h k9 (by omega) (by omega) (by omega) (by omega)
  rw [p1, hM, hE] at g6
  have g7 := fun v W h (hW : Below w.heap.size w W) => xexp_large m e M E r3 v W h (by omega) (by omega) (by omega) (by omega) hX.vm p4 s1 (by omega) s2 (HT.out W hW)
  have zz0 : zl 0 ≤ 1 := zl_c 0 (by decide)
  have g8 : ∀ v u W, IsI W v 0 0 0 0 → IsI W u 0 0 0 0 → Calls Tryz.prog 23 #[v, u] W (RetB W true) := fun v u W h k9 => by
    have s := r10same_any 0 0 0 0 0 0 0 0 v u W h k9 (by omega) (by omega) (by omega) (by omega) (by omega) (by omega) (by omega) (by omega)
    rwa [show ((decide ((0 : Int) = 0) && decide ((0 : Int) = 0)) && (decide ((0 : Int) = 0) && decide ((0 : Int) = 0))) = true from by simp] at s
  generalize mkM 1000 0 = M0 at *
  generalize mkE 1000 0 = E0 at *
  have G1 := Lib.hid g1
  have G2 := Lib.hid g2
  have G3 := Lib.hid g3
  have G4 := Lib.hid g4
  have G5 := Lib.hid g5
  have G6 := Lib.hid g6
  have G7 := Lib.hid g7
  have G8 := Lib.hid g8
  clear o1 o2 o3 o4 o5 o6 hr1 hr2 hr3 hk1 hk2 hk3 br2 br3 ok1 ok2 z1 z2 b1 b2 z11 z3 z4 z5 p1 p2 p3 p4 p5 p6 hM hE s1 s2 hX hr hj t1 t2 hok q10 g1 g2 g3 g4 g5 g6 g7 g8 zz0
  go_wp2_with fail
  obtain ⟨gx, hgx⟩ : ∃ g9, w2.heap.size = g9 := ⟨_, rfl⟩
  rw [hgx] at L hl9 ⊢
  clear hgx
  have hl_gx := hl9
  clear hl9
  obtain ⟨V, hV, L9⟩ := L.name
  rw [hV]
  clear hV L
  have L := L9
  clear L9
  have Q0 := Lib.hid (fun Z (hZ : Below V.heap.size V Z) => (L.b0.mono hZ).c60)
  have Q1 := Lib.hid (fun Z (hZ : Below V.heap.size V Z) => (L.b0.mono hZ).c61)
  have Q2 := Lib.hid (fun Z (hZ : Below V.heap.size V Z) => (L.b0.mono hZ).c62)
  have Q3 := Lib.hid (fun Z (hZ : Below V.heap.size V Z) => (L.b0.mono hZ).c63)
  have Q4 := Lib.hid (fun Z (hZ : Below V.heap.size V Z) => (L.b0.mono hZ).c64)
  have Q5 := Lib.hid (fun Z (hZ : Below V.heap.size V Z) => (L.b0.mono hZ).c65)
  have hb0 := L.b0.lt
  have D0 : Dq V V [(.slice A (zl m) c, (m : Int).natAbs), (.slice B (zl n) d, (n : Int).natAbs)] [] [] [] := ⟨(((Lq.mk0 V).n (L.getN (v := .slice B (zl n) d) (x := (n : Int).natAbs) (by simp))).n (L.getN (v := .slice A (zl m) c) (x := (m : Int).natAbs) (by simp))), List.nodup_nil, fun p hp => by cases hp⟩
  have D := D0.drew
  have hVw := L.below.size
  have HVW := Lib.hid (fun Z (hZ : Below V.heap.size V Z) => L.below.trans (hZ.mono hVw))
  have LL := Lib.hid L
  clear L
  obtain ⟨K, hK⟩ : ∃ K, V.heap.size = K := ⟨_, rfl⟩
  have hz0 : K ≤ V.heap.size := by omega
  have hmd : V.drew.heap.size = K := hK
  have hc0 : gx < K := by omega
  go_cut [9, 10] from 28 to 35 (fun s0 s1 wx => s1 = .int .i64 1 ∧ Made1I V 0 0 0 0 s0 wx)
  case first =>
    go_region_held3 (fun w' => w'.cell? ⟨gx, 0, none⟩ = some (.bool (ng m)) ∧ w'.cell? ⟨gx, 1, none⟩ = some (.slice A (zl m) c) ∧ w'.cell? ⟨gx, 2, none⟩ = some (.int .i64 e) ∧ w'.cell? ⟨gx, 3, none⟩ = some (.bool (ng n)) ∧ w'.cell? ⟨gx, 4, none⟩ = some (.slice B (zl n) d) ∧ w'.cell? ⟨gx, 5, none⟩ = some (.int .i64 f)) (((try dsimp only); refine ⟨?_, ?_, ?_, ?_, ?_, ?_⟩ <;> (repeat (first | (with_reducible exact Q0.out _ D.lq.below) | (with_reducible exact Q0.out _ D0.lq.below) | (with_reducible exact Q1.out _ D.lq.below) | (with_reducible exact Q1.out _ D0.lq.below) | (with_reducible exact Q2.out _ D.lq.below) | (with_reducible exact Q2.out _ D0.lq.below) | (with_reducible exact Q3.out _ D.lq.below) | (with_reducible exact Q3.out _ D0.lq.below) | (with_reducible exact Q4.out _ D.lq.below) | (with_reducible exact Q4.out _ D0.lq.below) | (with_reducible exact Q5.out _ D.lq.below) | (with_reducible exact Q5.out _ D0.lq.below) | (with_reducible refine c_alloc _ ?_) | (with_reducible refine c_drew ?_) | (with_reducible refine c_set ?_ (by assumption) ?_) | omega)))) (first | (go_at_call 13; (with_reducible refine (MO1.out _).mono ?_); rintro e9 wh ⟨rfl, rfl⟩) | (go_at_call 14; (with_reducible refine (G1.out _ _ ?_).mono ?_); (· (first | (with_reducible refine isI_n (D.getN ?_) (D.getN ?_) <;> (repeat (first | (with_reducible exact List.mem_cons_self) | apply List.mem_cons_of_mem))) | (with_reducible refine isI_n ((D.boxI false none 0 0 0 false none 0 0 0).getN ?_) ((D.boxI false none 0 0 0 false none 0 0 0).getN ?_) <;> (repeat (first | (with_reducible exact List.mem_cons_self) | apply List.mem_cons_of_mem))) | (with_reducible refine isI_n ((D0.boxI false none 0 0 0 false none 0 0 0).drew.getN ?_) ((D0.boxI false none 0 0 0 false none 0 0 0).drew.getN ?_) <;> (repeat (first | (with_reducible exact List.mem_cons_self) | apply List.mem_cons_of_mem))))); rintro e9 wh ⟨vh, rfl, ii, be⟩; obtain ⟨A1, c1, B1, d1, rfl, ia, ib⟩ := ii.form; (first | (replace D := D.step be) | (replace D := (D.boxMI hmd false none 0 0 0 false none 0 0 0).step be) | (replace D := (D.boxI false none 0 0 0 false none 0 0 0).step be)); have hz := be.size; (try simp at hz); replace D := (D.n ib).n ia; (try (have x00 := D.lq.b0.c60; have y00 := D.lq.b0.fr 0; have x01 := D.lq.b0.c61; have y01 := D.lq.b0.fr 1; have x02 := D.lq.b0.c62; have y02 := D.lq.b0.fr 2; have x03 := D.lq.b0.c63; have y03 := D.lq.b0.fr 3; have x04 := D.lq.b0.c64; have y04 := D.lq.b0.fr 4; have x05 := D.lq.b0.c65; have y05 := D.lq.b0.fr 5)); (try obtain ⟨na, nb, nc, nd, nl⟩ := D.n0)))
    all_goals
      go_wp2_with fail
      go_meet
      refine ⟨rfl, ?_⟩
      first
      | ((with_reducible refine made1i_a D ?_ ?_) <;> (repeat (first | (with_reducible exact List.mem_cons_self) | apply List.mem_cons_of_mem)))
      | ((with_reducible refine made1i_b D ?_ ?_) <;> (repeat (first | (with_reducible exact List.mem_cons_self) | apply List.mem_cons_of_mem)))
  case rest =>
    obtain ⟨rfl, g1, A2, c2, B2, d2, rfl, hg9, bw, hb9, q1, q2⟩ := hcut
    have L := (((LL.out.step bw).n q2).n q1).b hb9
    have hl_g1 := hg9
    clear D D0 hmd LL hb9 q1 q2 bw hg9 HVW Q0 Q1 Q2 Q3 Q4 Q5 hc0
    generalize wc = wd2 at *
    (try go_wp2_with fail)
    obtain ⟨V, hV, L9⟩ := L.name
    rw [hV]
    clear hV L
    have L := L9
    clear L9
    have Q0 := Lib.hid (fun Z (hZ : Below V.heap.size V Z) => (L.tl.b0.mono hZ).c60)
    have Q1 := Lib.hid (fun Z (hZ : Below V.heap.size V Z) => (L.tl.b0.mono hZ).c61)
    have Q2 := Lib.hid (fun Z (hZ : Below V.heap.size V Z) => (L.tl.b0.mono hZ).c62)
    have Q3 := Lib.hid (fun Z (hZ : Below V.heap.size V Z) => (L.tl.b0.mono hZ).c63)
    have Q4 := Lib.hid (fun Z (hZ : Below V.heap.size V Z) => (L.tl.b0.mono hZ).c64)
    have Q5 := Lib.hid (fun Z (hZ : Below V.heap.size V Z) => (L.tl.b0.mono hZ).c65)
    have hb0 := L.tl.b0.lt
    have D0 : Dq V V [(.slice A (zl m) c, (m : Int).natAbs), (.slice B (zl n) d, (n : Int).natAbs)] [] [] [] := ⟨(((Lq.mk0 V).n (L.getN (v := .slice B (zl n) d) (x := (n : Int).natAbs) (by simp))).n (L.getN (v := .slice A (zl m) c) (x := (m : Int).natAbs) (by simp))), List.nodup_nil, fun p hp => by cases hp⟩
    have D := D0.drew
    have hVw := L.below.size
    have HVW := Lib.hid (fun Z (hZ : Below V.heap.size V Z) => L.below.trans (hZ.mono hVw))
    have LL := Lib.hid L
    clear L
    obtain ⟨K, hK⟩ : ∃ K, V.heap.size = K := ⟨_, rfl⟩
    have hz0 : K ≤ V.heap.size := by omega
    have hmd : V.drew.heap.size = K := hK
    have hc0 : gx < K := by omega
    go_cut [11, 12] from 36 to 43 (fun s0 s1 wx => s1 = .int .i64 1 ∧ Made1I V 0 0 0 0 s0 wx)
    case first =>
      go_region_held3 (fun w' => w'.cell? ⟨gx, 0, none⟩ = some (.bool (ng m)) ∧ w'.cell? ⟨gx, 1, none⟩ = some (.slice A (zl m) c) ∧ w'.cell? ⟨gx, 2, none⟩ = some (.int .i64 e) ∧ w'.cell? ⟨gx, 3, none⟩ = some (.bool (ng n)) ∧ w'.cell? ⟨gx, 4, none⟩ = some (.slice B (zl n) d) ∧ w'.cell? ⟨gx, 5, none⟩ = some (.int .i64 f)) (((try dsimp only); refine ⟨?_, ?_, ?_, ?_, ?_, ?_⟩ <;> (repeat (first | (with_reducible exact Q0.out _ D.lq.below) | (with_reducible exact Q0.out _ D0.lq.below) | (with_reducible exact Q1.out _ D.lq.below) | (with_reducible exact Q1.out _ D0.lq.below) | (with_reducible exact Q2.out _ D.lq.below) | (with_reducible exact Q2.out _ D0.lq.below) | (with_reducible exact Q3.out _ D.lq.below) | (with_reducible exact Q3.out _ D0.lq.below) | (with_reducible exact Q4.out _ D.lq.below) | (with_reducible exact Q4.out _ D0.lq.below) | (with_reducible exact Q5.out _ D.lq.below) | (with_reducible exact Q5.out _ D0.lq.below) | (with_reducible refine c_alloc _ ?_) | (with_reducible refine c_drew ?_) | (with_reducible refine c_set ?_ (by assumption) ?_) | omega)))) (first | (go_at_call 13; (with_reducible refine (MO1.out _).mono ?_); rintro e9 wh ⟨rfl, rfl⟩) | (go_at_call 14; (with_reducible refine (G2.out _ _ ?_).mono ?_); (· (first | (with_reducible refine isI_n (D.getN ?_) (D.getN ?_) <;> (repeat (first | (with_reducible exact List.mem_cons_self) | apply List.mem_cons_of_mem))) | (with_reducible refine isI_n ((D.boxI false none 0 0 0 false none 0 0 0).getN ?_) ((D.boxI false none 0 0 0 false none 0 0 0).getN ?_) <;> (repeat (first | (with_reducible exact List.mem_cons_self) | apply List.mem_cons_of_mem))) | (with_reducible refine isI_n ((D0.boxI false none 0 0 0 false none 0 0 0).drew.getN ?_) ((D0.boxI false none 0 0 0 false none 0 0 0).drew.getN ?_) <;> (repeat (first | (with_reducible exact List.mem_cons_self) | apply List.mem_cons_of_mem))))); rintro e9 wh ⟨vh, rfl, ii, be⟩; obtain ⟨A1, c1, B1, d1, rfl, ia, ib⟩ := ii.form; (first | (replace D := D.step be) | (replace D := (D.boxMI hmd false none 0 0 0 false none 0 0 0).step be) | (replace D := (D.boxI false none 0 0 0 false none 0 0 0).step be)); have hz := be.size; (try simp at hz); replace D := (D.n ib).n ia; (try (have x00 := D.lq.b0.c60; have y00 := D.lq.b0.fr 0; have x01 := D.lq.b0.c61; have y01 := D.lq.b0.fr 1; have x02 := D.lq.b0.c62; have y02 := D.lq.b0.fr 2; have x03 := D.lq.b0.c63; have y03 := D.lq.b0.fr 3; have x04 := D.lq.b0.c64; have y04 := D.lq.b0.fr 4; have x05 := D.lq.b0.c65; have y05 := D.lq.b0.fr 5)); (try obtain ⟨na, nb, nc, nd, nl⟩ := D.n0)))
      all_goals
        go_wp2_with fail
        go_meet
        refine ⟨rfl, ?_⟩
        first
        | ((with_reducible refine made1i_a D ?_ ?_) <;> (repeat (first | (with_reducible exact List.mem_cons_self) | apply List.mem_cons_of_mem)))
        | ((with_reducible refine made1i_b D ?_ ?_) <;> (repeat (first | (with_reducible exact List.mem_cons_self) | apply List.mem_cons_of_mem)))
    case rest =>
      obtain ⟨rfl, g2, A3, c3, B3, d3, rfl, hg9, bw, hb9, q1, q2⟩ := hcut
      have L := (((LL.out.step bw).n q2).n q1).b hb9
      have hl_g2 := hg9
      clear D D0 hmd LL hb9 q1 q2 bw hg9 HVW Q0 Q1 Q2 Q3 Q4 Q5 hc0
      generalize wc = wd3 at *
      (try go_wp2_with fail)
      refine (G3.out _).mono ?_
      rintro e w5 ⟨v9, rfl, iz, be⟩
      obtain ⟨A5, c5, rfl, _, in9⟩ := iz.form
      replace L := (L.step be).n in9
      clear be iz in9
      have hfd : ∀ W, (Instr.field 26 (.agg #[.bool (ng 1), .slice A5 (zl 1) c5, .int .i64 0]) 0).run Tryz.prog W = .ok (.agg #[.bool (ng 1), .slice A5 (zl 1) c5]) W := fun W => by kernel_rfl
      (try go_wp2_with fail)
      clear hfd
      refine (MO2.out _).mono ?_
      rintro e9 w' ⟨rfl, rfl⟩
      (try go_wp2_with fail)
      refine (G4.out _ _ (isZ_s (z := 1) (s := .slice A5 (zl 1) c5) (L.getN (by simp)))).mono ?_
      rintro e w6 ⟨v9, rfl, iz, be⟩
      obtain ⟨A6, c6, rfl, _, in9⟩ := iz.form
      replace L := (L.step be).n in9
      clear be iz in9
      have hl9 := L.b0.lt
      have hl8 := L.tl.tl.b0.lt
      replace L := L.varD w6.heap.size rfl (ng 1) A6 (zl 1) c6 k3
      go_wp2_with fail
      obtain ⟨ge, hge⟩ : ∃ g9, w6.heap.size = g9 := ⟨_, rfl⟩
      rw [hge] at L hl9 hl8 ⊢
      clear hge
      have hl_ge := hl9
      clear hl9
      obtain ⟨V, hV, L9⟩ := L.name
      rw [hV]
      clear hV L
      have L := L9
      clear L9
      have Q0 := Lib.hid (fun Z (hZ : Below V.heap.size V Z) => (L.b0.mono hZ).c30)
      have Q1 := Lib.hid (fun Z (hZ : Below V.heap.size V Z) => (L.b0.mono hZ).c31)
      have Q2 := Lib.hid (fun Z (hZ : Below V.heap.size V Z) => (L.b0.mono hZ).c32)
      have hb0 := L.b0.lt
      have D0 : Dq V V [(.slice A6 (zl 1) c6, (1 : Int).natAbs)] [] [] [] := ⟨((Lq.mk0 V).n (L.getN (v := .slice A6 (zl 1) c6) (x := (1 : Int).natAbs) (by simp))), List.nodup_nil, fun p hp => by cases hp⟩
      have D := D0.drew
      have hVw := L.below.size
      have HVW := Lib.hid (fun Z (hZ : Below V.heap.size V Z) => L.below.trans (hZ.mono hVw))
      have LL := Lib.hid L
      clear L
      obtain ⟨K, hK⟩ : ∃ K, V.heap.size = K := ⟨_, rfl⟩
      have hz0 : K ≤ V.heap.size := by omega
      have hmd : V.drew.heap.size = K := hK
      have hc0 : ge < K := by omega
      go_cut [15, 16] from 53 to 58 (fun s0 s1 wx => s1 = .int .i64 0 ∧ Made1D V M E s0 wx)
      case first =>
        go_region_held3 (fun w' => w'.cell? ⟨ge, 0, none⟩ = some (.bool (ng 1)) ∧ w'.cell? ⟨ge, 1, none⟩ = some (.slice A6 (zl 1) c6) ∧ w'.cell? ⟨ge, 2, none⟩ = some (.int .i64 k3)) (((try dsimp only); refine ⟨?_, ?_, ?_⟩ <;> (repeat (first | (with_reducible exact Q0.out _ D.lq.below) | (with_reducible exact Q0.out _ D0.lq.below) | (with_reducible exact Q1.out _ D.lq.below) | (with_reducible exact Q1.out _ D0.lq.below) | (with_reducible exact Q2.out _ D.lq.below) | (with_reducible exact Q2.out _ D0.lq.below) | (with_reducible refine c_alloc _ ?_) | (with_reducible refine c_drew ?_) | (with_reducible refine c_set ?_ (by assumption) ?_) | omega)))) (first | (go_at_call 18; (with_reducible refine (G5.out _).mono ?_); rintro e9 wh ⟨vh, rfl, id, be⟩; obtain ⟨A7, c7, rfl, _, in9⟩ := id.form; (first | (replace D := D.step be) | (replace D := (D.boxMD hmd false none 0 0 0).step be) | (replace D := (D.boxD false none 0 0 0).step be)); have hz := be.size; (try simp at hz); replace D := D.n in9; (try (have x00 := D.lq.b0.c30; have y00 := D.lq.b0.fr 0; have x01 := D.lq.b0.c31; have y01 := D.lq.b0.fr 1; have x02 := D.lq.b0.c32; have y02 := D.lq.b0.fr 2)); (try obtain ⟨na, nb, nc, nd, nl⟩ := D.n0)) | (go_at_call 22; (with_reducible refine (G6.out _ _ _ ?_ ?_).mono ?_); (· (first | (with_reducible refine isD_n (D.getN ?_); (repeat (first | (with_reducible exact List.mem_cons_self) | apply List.mem_cons_of_mem))) | (with_reducible refine isD_n ((D.boxD false none 0 0 0).getN ?_); (repeat (first | (with_reducible exact List.mem_cons_self) | apply List.mem_cons_of_mem))) | (with_reducible refine isD_n ((D0.boxD false none 0 0 0).drew.getN ?_); (repeat (first | (with_reducible exact List.mem_cons_self) | apply List.mem_cons_of_mem))))); (· (first | (with_reducible refine isD_n (D.getN ?_); (repeat (first | (with_reducible exact List.mem_cons_self) | apply List.mem_cons_of_mem))) | (with_reducible refine isD_n ((D.boxD false none 0 0 0).getN ?_); (repeat (first | (with_reducible exact List.mem_cons_self) | apply List.mem_cons_of_mem))) | (with_reducible refine isD_n ((D0.boxD false none 0 0 0).drew.getN ?_); (repeat (first | (with_reducible exact List.mem_cons_self) | apply List.mem_cons_of_mem))))); rintro e9 wh ⟨vh, rfl, id, be⟩; obtain ⟨A8, c8, rfl, _, in9⟩ := id.form; (first | (replace D := D.step be) | (replace D := (D.boxMD hmd false none 0 0 0).step be) | (replace D := (D.boxD false none 0 0 0).step be)); have hz := be.size; (try simp at hz); replace D := D.n in9; (try (have x00 := D.lq.b0.c30; have y00 := D.lq.b0.fr 0; have x01 := D.lq.b0.c31; have y01 := D.lq.b0.fr 1; have x02 := D.lq.b0.c32; have y02 := D.lq.b0.fr 2)); (try obtain ⟨na, nb, nc, nd, nl⟩ := D.n0)))
        all_goals
          go_wp2_with fail
          go_meet
          refine ⟨rfl, ?_⟩
          first
          | ((with_reducible refine made1d_a D ?_) <;> (repeat (first | (with_reducible exact List.mem_cons_self) | apply List.mem_cons_of_mem)))
          | ((with_reducible refine made1d_b D ?_) <;> (repeat (first | (with_reducible exact List.mem_cons_self) | apply List.mem_cons_of_mem)))
      case rest =>
        obtain ⟨rfl, gh, A9, c9, rfl, hg9, bw, hb9, q1⟩ := hcut
        have L := ((LL.out.step bw).n q1).b hb9
        have hl_gh := hg9
        clear D D0 hmd LL hb9 q1 bw hg9 HVW Q0 Q1 Q2 hc0
        generalize wc = wd6 at *
        have L8 := L.pick [(gx, 28, #[.bool (ng m), .slice A (zl m) c, .int .i64 e, .bool (ng n), .slice B (zl n) d, .int .i64 f]), (gh, 26, #[.bool (ng M), .slice A9 (zl M) c9, .int .i64 E])] (by simp)
        clear L
        have L := L8
        clear L8
        have hgx2 := L.b0.lt
        have c00 := L.b0.c60
        have f00 := L.b0.fr 0
        have c01 := L.b0.c61
        have f01 := L.b0.fr 1
        have c02 := L.b0.c62
        have f02 := L.b0.fr 2
        have c03 := L.b0.c63
        have f03 := L.b0.fr 3
        have c04 := L.b0.c64
        have f04 := L.b0.fr 4
        have c05 := L.b0.c65
        have f05 := L.b0.fr 5
        have c10 := L.tl.b0.c30
        have c11 := L.tl.b0.c31
        have c12 := L.tl.b0.c32
        have P := L.putHi (by omega) (by simp; omega) (ng M) A9 (zl M) c9 E
        go_wp2_with fail
        replace L := P
        clear P
        clear c00 f00 c01 f01 c02 f02 c03 f03 c04 f04 c05 f05 c10 c11 c12
        obtain ⟨V, hV, L9⟩ := L.name
        rw [hV]
        clear hV L
        have L := L9
        clear L9
        have Q0 := Lib.hid (fun Z (hZ : Below V.heap.size V Z) => (L.b0.mono hZ).c60)
        have Q1 := Lib.hid (fun Z (hZ : Below V.heap.size V Z) => (L.b0.mono hZ).c61)
        have Q2 := Lib.hid (fun Z (hZ : Below V.heap.size V Z) => (L.b0.mono hZ).c62)
        have Q3 := Lib.hid (fun Z (hZ : Below V.heap.size V Z) => (L.b0.mono hZ).c63)
        have Q4 := Lib.hid (fun Z (hZ : Below V.heap.size V Z) => (L.b0.mono hZ).c64)
        have Q5 := Lib.hid (fun Z (hZ : Below V.heap.size V Z) => (L.b0.mono hZ).c65)
        have hb0 := L.b0.lt
        have D0 : Dq V V [(.slice A (zl m) c, (m : Int).natAbs), (.slice A9 (zl M) c9, (M : Int).natAbs)] [] [] [] := ⟨(((Lq.mk0 V).n (L.getN (v := .slice A9 (zl M) c9) (x := (M : Int).natAbs) (by simp))).n (L.getN (v := .slice A (zl m) c) (x := (m : Int).natAbs) (by simp))), List.nodup_nil, fun p hp => by cases hp⟩
        have D := D0.drew
        have hVw := L.below.size
        have HVW := Lib.hid (fun Z (hZ : Below V.heap.size V Z) => L.below.trans (hZ.mono hVw))
        have LL := Lib.hid L
        clear L
        obtain ⟨K, hK⟩ : ∃ K, V.heap.size = K := ⟨_, rfl⟩
        have hz0 : K ≤ V.heap.size := by omega
        have hmd : V.drew.heap.size = K := hK
        have hc0 : gx < K := by omega
        go_cut [17, 18] from 61 to 67 (fun s0 s1 wx => s1 = .int .i64 3 ∧ Made1I V 0 0 0 0 s0 wx)
        case first =>
          go_region_held3 (fun w' => w'.cell? ⟨gx, 0, none⟩ = some (.bool (ng m)) ∧ w'.cell? ⟨gx, 1, none⟩ = some (.slice A (zl m) c) ∧ w'.cell? ⟨gx, 2, none⟩ = some (.int .i64 e) ∧ w'.cell? ⟨gx, 3, none⟩ = some (.bool (ng M)) ∧ w'.cell? ⟨gx, 4, none⟩ = some (.slice A9 (zl M) c9) ∧ w'.cell? ⟨gx, 5, none⟩ = some (.int .i64 E)) (((try dsimp only); refine ⟨?_, ?_, ?_, ?_, ?_, ?_⟩ <;> (repeat (first | (with_reducible exact Q0.out _ D.lq.below) | (with_reducible exact Q0.out _ D0.lq.below) | (with_reducible exact Q1.out _ D.lq.below) | (with_reducible exact Q1.out _ D0.lq.below) | (with_reducible exact Q2.out _ D.lq.below) | (with_reducible exact Q2.out _ D0.lq.below) | (with_reducible exact Q3.out _ D.lq.below) | (with_reducible exact Q3.out _ D0.lq.below) | (with_reducible exact Q4.out _ D.lq.below) | (with_reducible exact Q4.out _ D0.lq.below) | (with_reducible exact Q5.out _ D.lq.below) | (with_reducible exact Q5.out _ D0.lq.below) | (with_reducible refine c_alloc _ ?_) | (with_reducible refine c_drew ?_) | (with_reducible refine c_set ?_ (by assumption) ?_) | omega)))) (first | (go_at_call 13; (with_reducible refine (MO3.out _).mono ?_); rintro e9 wh ⟨rfl, rfl⟩) | (go_at_call 14; (with_reducible refine (G7.out _ _ ?_ ?_).mono ?_); (· (first | (with_reducible refine isI_n (D.getN ?_) (D.getN ?_) <;> (repeat (first | (with_reducible exact List.mem_cons_self) | apply List.mem_cons_of_mem))) | (with_reducible refine isI_n ((D.boxI false none 0 0 0 false none 0 0 0).getN ?_) ((D.boxI false none 0 0 0 false none 0 0 0).getN ?_) <;> (repeat (first | (with_reducible exact List.mem_cons_self) | apply List.mem_cons_of_mem))) | (with_reducible refine isI_n ((D0.boxI false none 0 0 0 false none 0 0 0).drew.getN ?_) ((D0.boxI false none 0 0 0 false none 0 0 0).drew.getN ?_) <;> (repeat (first | (with_reducible exact List.mem_cons_self) | apply List.mem_cons_of_mem))))); (· (first | (with_reducible exact HVW.out _ D.lq.below) | (with_reducible exact HVW.out _ (D.boxI false none 0 0 0 false none 0 0 0).lq.below) | (with_reducible exact HVW.out _ (D0.boxI false none 0 0 0 false none 0 0 0).drew.lq.below))); rintro e9 wh ⟨vh, rfl, ii, be⟩; obtain ⟨A1, c1, B1, d1, rfl, ia, ib⟩ := ii.form; (first | (replace D := D.step be) | (replace D := (D.boxMI hmd false none 0 0 0 false none 0 0 0).step be) | (replace D := (D.boxI false none 0 0 0 false none 0 0 0).step be)); have hz := be.size; (try simp at hz); replace D := (D.n ib).n ia; (try (have x00 := D.lq.b0.c60; have y00 := D.lq.b0.fr 0; have x01 := D.lq.b0.c61; have y01 := D.lq.b0.fr 1; have x02 := D.lq.b0.c62; have y02 := D.lq.b0.fr 2; have x03 := D.lq.b0.c63; have y03 := D.lq.b0.fr 3; have x04 := D.lq.b0.c64; have y04 := D.lq.b0.fr 4; have x05 := D.lq.b0.c65; have y05 := D.lq.b0.fr 5)); (try obtain ⟨na, nb, nc, nd, nl⟩ := D.n0)))
          all_goals
            go_wp2_with fail
            go_meet
            refine ⟨rfl, ?_⟩
            first
            | ((with_reducible refine made1i_a D ?_ ?_) <;> (repeat (first | (with_reducible exact List.mem_cons_self) | apply List.mem_cons_of_mem)))
            | ((with_reducible refine made1i_b D ?_ ?_) <;> (repeat (first | (with_reducible exact List.mem_cons_self) | apply List.mem_cons_of_mem)))
        case rest =>
          obtain ⟨rfl, gy, A4, c4, B4, d4, rfl, hg9, bw, hb9, q1, q2⟩ := hcut
          have L := (((LL.out.step bw).n q2).n q1).b hb9
          have hl_gy := hg9
          clear D D0 hmd LL hb9 q1 q2 bw hg9 HVW Q0 Q1 Q2 Q3 Q4 Q5 hc0
          generalize wc = wd7 at *
          have c00 := L.b0.c60
          have c01 := L.b0.c61
          have c02 := L.b0.c62
          have c03 := L.b0.c63
          have c04 := L.b0.c64
          have c05 := L.b0.c65
          (try go_wp2_with fail)
          refine (G8.out _ _ _ (isI_n (m := 0) (e := 0) (n := 0) (f := 0) (s := .slice A4 (zl 0) c4) (t := .slice B4 (zl 0) d4) (L.getN (by simp)) (L.getN (by simp))) (isI_zero _)).mono ?_
          rintro e9 wh ⟨rfl, be⟩
          replace L := L.step be
          (try go_wp2_with fail)
          (try go_ret)
          exact ⟨rfl, L.below⟩

end Go.Proofs.YtnnfldkllhdhjaaGreatDoor
