/- The reference's Mul. -/
import Derived.Test.YtoobcngbnjeddaaGreatDoorRefArMZ
import Derived.Test.YtoobcngbnjeddaaGreatDoorArPDZ
import Derived.Deep.RegionHeld3
import Derived.Deep.DrawnRows
import Derived.Deep.Cut
import Derived.Deep.CutRange
namespace Go.Proofs.YtoobcngbnjeddaaGreatDoor
open Go.RowKit
set_option linter.unusedVariables false
set_option linter.unusedSimpArgs false
set_option maxRecDepth 100000
attribute [local go_sem ↓] Go.wp_at_zero Go.wp_at_succ

set_option maxHeartbeats 32000000 in
theorem r11mul_any (m e n f m2 e2 n2 f2 k : Int) (vx vy : Value) (w : World) (hx : IsI w vx m e n f) (hy : IsI w vy m2 e2 n2 f2) (lm : zl m ≤ 25) (ln : zl n ≤ 25) (lm2 : zl m2 ≤ 25) (ln2 : zl n2 ≤ 25) (he : -3000 ≤ e ∧ e ≤ 3000) (hf : -3000 ≤ f ∧ f ≤ 3000) (he2 : -3000 ≤ e2 ∧ e2 ≤ 3000) (hf2 : -3000 ≤ f2 ∧ f2 ≤ 3000) (hk1 : -9223372036854775808 ≤ k) (hk2 : k ≤ 9223372036854775807) :
    Calls Tryz.prog 18 #[vx, vy, .int .i64 k] w (RetEn w (min4 (dq m e * dq m2 e2) (dq m e * dq n2 f2) (dq n f * dq m2 e2) (dq n f * dq n2 f2)) (max4 (dq m e * dq m2 e2) (dq m e * dq n2 f2) (dq n f * dq m2 e2) (dq n f * dq n2 f2)) k) := by
  obtain ⟨A, c, B, d, rfl, hn1, hn2⟩ := hx.form
  obtain ⟨C2, h2, D2, i2, rfl, hn3, hn4⟩ := hy.form
  have L0 := ((((Lq.mk0 w).n hn4).n hn3).n hn2).n hn1
  have he1 := fun v W h => rends_any m e n f v W h (by omega) (by omega) (by omega) (by omega)
  have he2' := fun v W h => rends_any m2 e2 n2 f2 v W h (by omega) (by omega) (by omega) (by omega)
  have x1 := zl_two m e.toNat
  have y1 := len_two (-e).toNat
  have z1 := two_pos8 (-e).toNat
  obtain ⟨a1, ha1⟩ : ∃ z, m * 2 ^ e.toNat = z := ⟨_, rfl⟩
  obtain ⟨d1, hd19⟩ : ∃ z, 2 ^ (-e).toNat = z := ⟨_, rfl⟩
  have qv1 : dq m e = qOf (a1, d1) := by rw [← ha1, ← hd19]; rfl
  rw [ha1] at x1
  rw [hd19] at y1 z1
  have x2 := zl_two n f.toNat
  have y2 := len_two (-f).toNat
  have z2 := two_pos8 (-f).toNat
  obtain ⟨a2, ha2⟩ : ∃ z, n * 2 ^ f.toNat = z := ⟨_, rfl⟩
  obtain ⟨d2, hd29⟩ : ∃ z, 2 ^ (-f).toNat = z := ⟨_, rfl⟩
  have qv2 : dq n f = qOf (a2, d2) := by rw [← ha2, ← hd29]; rfl
  rw [ha2] at x2
  rw [hd29] at y2 z2
  have x3 := zl_two m2 e2.toNat
  have y3 := len_two (-e2).toNat
  have z3 := two_pos8 (-e2).toNat
  obtain ⟨a3, ha3⟩ : ∃ z, m2 * 2 ^ e2.toNat = z := ⟨_, rfl⟩
  obtain ⟨d3, hd39⟩ : ∃ z, 2 ^ (-e2).toNat = z := ⟨_, rfl⟩
  have qv3 : dq m2 e2 = qOf (a3, d3) := by rw [← ha3, ← hd39]; rfl
  rw [ha3] at x3
  rw [hd39] at y3 z3
  have x4 := zl_two n2 f2.toNat
  have y4 := len_two (-f2).toNat
  have z4 := two_pos8 (-f2).toNat
  obtain ⟨a4, ha4⟩ : ∃ z, n2 * 2 ^ f2.toNat = z := ⟨_, rfl⟩
  obtain ⟨d4, hd49⟩ : ∃ z, 2 ^ (-f2).toNat = z := ⟨_, rfl⟩
  have qv4 : dq n2 f2 = qOf (a4, d4) := by rw [← ha4, ← hd49]; rfl
  rw [ha4] at x4
  rw [hd49] at y4 z4
  rw [ha1, hd19, ha2, hd29] at he1
  rw [ha3, hd39, ha4, hd49] at he2'
  rw [qv1, qv2, qv3, qv4]
  clear ha1 hd19 ha2 hd29 ha3 hd39 ha4 hd49 qv1 qv2 qv3 qv4
  have n5 := fun v u W h1 h2 => rmul7_any a1 d1 a3 d3 v u W h1 h2 (by omega) (by omega) (by omega) (by omega) z1 z3
  have s5 := prod_small (a := a1) (b := a3) (d := d1) (e := d3) (by omega) (by omega) (by omega) (by omega) z1 z3
  have v5 := q_mul a1 a3 d1 d3
  rw [← v5]
  obtain ⟨r5, hr5⟩ : ∃ z, Rat.divInt (a1 * a3) ((d1 : Int) * (d3 : Int)) = z := ⟨_, rfl⟩
  unfold RetQ at n5
  rw [hr5] at n5 s5 ⊢
  have t5 := Rat.den_pos r5
  obtain ⟨a5, ha5⟩ : ∃ z, r5.num = z := ⟨_, rfl⟩
  obtain ⟨d5, hd5⟩ : ∃ z, r5.den = z := ⟨_, rfl⟩
  have e5 := qnum r5 ha5 hd5
  rw [ha5] at n5 s5
  rw [hd5] at n5 s5 t5
  rw [← e5]
  clear v5 e5 hr5 ha5 hd5
  have n6 := fun v u W h1 h2 => rmul7_any a1 d1 a4 d4 v u W h1 h2 (by omega) (by omega) (by omega) (by omega) z1 z4
  have s6 := prod_small (a := a1) (b := a4) (d := d1) (e := d4) (by omega) (by omega) (by omega) (by omega) z1 z4
  have v6 := q_mul a1 a4 d1 d4
  rw [← v6]
  obtain ⟨r6, hr6⟩ : ∃ z, Rat.divInt (a1 * a4) ((d1 : Int) * (d4 : Int)) = z := ⟨_, rfl⟩
  unfold RetQ at n6
  rw [hr6] at n6 s6 ⊢
  have t6 := Rat.den_pos r6
  obtain ⟨a6, ha6⟩ : ∃ z, r6.num = z := ⟨_, rfl⟩
  obtain ⟨d6, hd6⟩ : ∃ z, r6.den = z := ⟨_, rfl⟩
  have e6 := qnum r6 ha6 hd6
  rw [ha6] at n6 s6
  rw [hd6] at n6 s6 t6
  rw [← e6]
  clear v6 e6 hr6 ha6 hd6
  have n7 := fun v u W h1 h2 => rmul7_any a2 d2 a3 d3 v u W h1 h2 (by omega) (by omega) (by omega) (by omega) z2 z3
  have s7 := prod_small (a := a2) (b := a3) (d := d2) (e := d3) (by omega) (by omega) (by omega) (by omega) z2 z3
  have v7 := q_mul a2 a3 d2 d3
  rw [← v7]
  obtain ⟨r7, hr7⟩ : ∃ z, Rat.divInt (a2 * a3) ((d2 : Int) * (d3 : Int)) = z := ⟨_, rfl⟩
  unfold RetQ at n7
  rw [hr7] at n7 s7 ⊢
  have t7 := Rat.den_pos r7
  obtain ⟨a7, ha7⟩ : ∃ z, r7.num = z := ⟨_, rfl⟩
  obtain ⟨d7, hd7⟩ : ∃ z, r7.den = z := ⟨_, rfl⟩
  have e7 := qnum r7 ha7 hd7
  rw [ha7] at n7 s7
  rw [hd7] at n7 s7 t7
  rw [← e7]
  clear v7 e7 hr7 ha7 hd7
  have n8 := fun v u W h1 h2 => rmul7_any a2 d2 a4 d4 v u W h1 h2 (by omega) (by omega) (by omega) (by omega) z2 z4
  have s8 := prod_small (a := a2) (b := a4) (d := d2) (e := d4) (by omega) (by omega) (by omega) (by omega) z2 z4
  have v8 := q_mul a2 a4 d2 d4
  rw [← v8]
  obtain ⟨r8, hr8⟩ : ∃ z, Rat.divInt (a2 * a4) ((d2 : Int) * (d4 : Int)) = z := ⟨_, rfl⟩
  unfold RetQ at n8
  rw [hr8] at n8 s8 ⊢
  have t8 := Rat.den_pos r8
  obtain ⟨a8, ha8⟩ : ∃ z, r8.num = z := ⟨_, rfl⟩
  obtain ⟨d8, hd8⟩ : ∃ z, r8.den = z := ⟨_, rfl⟩
  have e8 := qnum r8 ha8 hd8
  rw [ha8] at n8 s8
  rw [hd8] at n8 s8 t8
  rw [← e8]
  clear v8 e8 hr8 ha8 hd8
  have en := fun v W h => rencl_any [(a5, d5), (a6, d6), (a7, d7), (a8, d8)] _ _ k v W h (by simp) (by simp) (fun r hr => by
    simp only [List.mem_cons, List.not_mem_nil, or_false] at hr
    rcases hr with rfl | rfl | rfl | rfl
    · show zl a5 ≤ 800 ∧ len d5 ≤ 800 ∧ 0 < d5
      exact ⟨s5.1, s5.2, t5⟩
    · show zl a6 ≤ 800 ∧ len d6 ≤ 800 ∧ 0 < d6
      exact ⟨s6.1, s6.2, t6⟩
    · show zl a7 ≤ 800 ∧ len d7 ≤ 800 ∧ 0 < d7
      exact ⟨s7.1, s7.2, t7⟩
    · show zl a8 ≤ 800 ∧ len d8 ≤ 800 ∧ 0 < d8
      exact ⟨s8.1, s8.2, t8⟩) (least_4 (a5, d5) (a6, d6) (a7, d7) (a8, d8)) (most_4 (a5, d5) (a6, d6) (a7, d7) (a8, d8)) hk1 hk2
  generalize min4 (qOf (a5, d5)) (qOf (a6, d6)) (qOf (a7, d7)) (qOf (a8, d8)) = lo at *
  generalize max4 (qOf (a5, d5)) (qOf (a6, d6)) (qOf (a7, d7)) (qOf (a8, d8)) = hi at *
  have HE1 := Lib.hid he1
  have HE2 := Lib.hid he2'
  have OP5 := Lib.hid n5
  have OP6 := Lib.hid n6
  have OP7 := Lib.hid n7
  have OP8 := Lib.hid n8
  have EN := Lib.hid en
  clear he1 he2' en n5 s5 t5 n6 s6 t6 n7 s7 t7 n8 s8 t8 x1 x2 x3 x4 y1 y2 y3 y4 z1 z2 z3 z4 hx hy hn1 hn2 hn3 hn4 lm ln lm2 ln2 he hf he2 hf2 hk1 hk2
  go_enter Tryz.func18, Tryz.ntmps18
  go_wp2_with fail
  have L := (((L0.varI (w.heap.size) (by simp) (ng m) A (zl m) c e (ng n) B (zl n) d f).varI (w.heap.size + 1) (by simp) (ng m2) C2 (zl m2) h2 e2 (ng n2) D2 (zl n2) i2 f2).varI (w.heap.size + 2) (by simp) false none 0 0 0 false none 0 0 0)
  obtain ⟨gr, hgr⟩ : ∃ gr, w.heap.size + 1 + 1 = gr := ⟨_, rfl⟩
  have hgr2 : w.heap.size + 2 = gr := hgr
  rw [hgr2] at L
  rw [hgr]
  have hgr3 : w.heap.size + 1 < gr := by omega
  clear hgr hgr2
  have c10 := L.tl.b0.c60
  have c11 := L.tl.b0.c61
  have c12 := L.tl.b0.c62
  have c13 := L.tl.b0.c63
  have c14 := L.tl.b0.c64
  have c15 := L.tl.b0.c65
  have c20 := L.tl.tl.b0.c60
  have c21 := L.tl.tl.b0.c61
  have c22 := L.tl.tl.b0.c62
  have c23 := L.tl.tl.b0.c63
  have c24 := L.tl.tl.b0.c64
  have c25 := L.tl.tl.b0.c65
  (try go_wp2_with fail)
  refine (HE1.out _ _ (isI_n (m := m) (e := e) (n := n) (f := f) (L.getN (v := .slice A (zl m) c) (x := (m).natAbs) (by simp)) (L.getN (v := .slice B (zl n) d) (x := (n).natAbs) (by simp)))).mono ?_
  rintro e w1 ⟨vv, rfl, ie, be⟩
  clear c10 c11 c12 c13 c14 c15 c20 c21 c22 c23 c24 c25
  obtain ⟨A1, c1, B1, k1, A2, c2, B2, k2, rfl, iq1, iq2⟩ := ie.form
  replace L := ((L.step be).q iq2).q iq1
  clear be ie iq1 iq2
  have hix0 : ∀ (b b' : Bool) (E F E' F' : Option Addr) (n1 n2 n3 n4 n5 n6 n7 n8 : Nat) (W : World), (Instr.index 74 (.agg #[.bool b, .slice E n1 n2, .slice F n3 n4, .bool b', .slice E' n5 n6, .slice F' n7 n8]) (.int .i64 0)).run Tryz.prog W = .ok (.agg #[.bool b, .slice E n1 n2, .slice F n3 n4]) W := fun _ _ _ _ _ _ _ _ _ _ _ _ _ _ _ => by kernel_rfl
  have hix1 : ∀ (b b' : Bool) (E F E' F' : Option Addr) (n1 n2 n3 n4 n5 n6 n7 n8 : Nat) (W : World), (Instr.index 74 (.agg #[.bool b, .slice E n1 n2, .slice F n3 n4, .bool b', .slice E' n5 n6, .slice F' n7 n8]) (.int .i64 1)).run Tryz.prog W = .ok (.agg #[.bool b', .slice E' n5 n6, .slice F' n7 n8]) W := fun _ _ _ _ _ _ _ _ _ _ _ _ _ _ _ => by kernel_rfl
  obtain ⟨V, hV⟩ : ∃ V, w1 = V := ⟨_, rfl⟩
  subst hV
  have hgV := L.b0.lt
  have LL := Lib.hid L
  clear L
  go_wp2_with fail
  go_loopw [8, 15] (fun s i wr => ∃ t : Nat, i = .int .i64 (t : Int) ∧ t ≤ 2 ∧ Below w1.heap.size w1 wr ∧ OwnRa wr w1.heap.size s (List.take (2 * t) [(a5, d5), (a6, d6), (a7, d7), (a8, d8)])) (fun _ i _ => 2 - (intOf i).toNat)
  case atStart => exact ⟨0, rfl, by omega, Below.refl _ _, OwnRa.nil _ _⟩
  case round =>
    obtain ⟨t, rfl, ht, hbe, hown⟩ := hrel
    have hbs := hbe.size
    rcases (show t = 2 ∨ t = 0 ∨ t = 1 by omega) with rfl | rfl | rfl
    · have hrow := hown.row (by simp)
      have L := LL.out.step hbe
      clear hown
      go_wp2_with fail
      refine (EN.out _ _ hrow).mono ?_
      intro e9 w19 hen
      obtain ⟨v19, er, m9, e9', n9, f9, rfl, ii, be, hback⟩ := hen.form
      obtain ⟨A5, c5, B5, d5, rfl, ia, ib⟩ := ii.form
      replace L := (((L.step be).n ib).n ia)
      clear be ii ia ib hen
      have HBK := Lib.hid hback
      clear hback
      have c00 := L.b0.c60
      have f00 := L.b0.fr 0
      have c01 := L.b0.c61
      have f01 := L.b0.fr 1
      have c02 := L.b0.c62
      have f02 := L.b0.fr 2
      have c03 := L.b0.c63
      have f03 := L.b0.fr 3
      have c04 := L.b0.c64
      have f04 := L.b0.fr 4
      have c05 := L.b0.c65
      have f05 := L.b0.fr 5
      go_wp2_with fail
      have LP := L.putI (by omega) (by first | (simp; done) | (simp; omega)) (ng m9) A5 (zl m9) c5 e9' (ng n9) B5 (zl n9) d5 f9
      have k0' := LP.b0.c60
      have k1' := LP.b0.c61
      have k2' := LP.b0.c62
      have k3' := LP.b0.c63
      have k4' := LP.b0.c64
      have k5' := LP.b0.c65
      unfold put6 at k0' k1' k2' k3' k4' k5'
      exact bodyPost_ret (v := .tuple #[.agg #[.bool (ng m9), .slice A5 (zl m9) c5, .int .i64 e9', .bool (ng n9), .slice B5 (zl n9) d5, .int .i64 f9], .int .i64 er]) (by simp [results, Tryz.results18, go_sem, k0', k1', k2', k3', k4', k5']) rfl (HBK.out _ _ _ (isI_n (LP.getN (by simp)) (LP.getN (by simp))) LP.below)
    · have HOWN0 := Lib.hid hown
      clear hown
      have L := (LL.out.step hbe).varQ wr.heap.size rfl (ng a1) A1 B1 (zl a1) c1 (len d1) k1
      have c00 := L.b0.c30
      have c01 := L.b0.c31
      have c02 := L.b0.c32
      have c20 := L.tl.tl.b0.c60
      have c21 := L.tl.tl.b0.c61
      have c22 := L.tl.tl.b0.c62
      have c23 := L.tl.tl.b0.c63
      have c24 := L.tl.tl.b0.c64
      have c25 := L.tl.tl.b0.c65
      go_wp2_with fail
      refine (HE2.out _ _ (isI_n (m := m2) (e := e2) (n := n2) (f := f2) (L.getN (v := .slice C2 (zl m2) h2) (x := (m2).natAbs) (by simp)) (L.getN (v := .slice D2 (zl n2) i2) (x := (n2).natAbs) (by simp)))).mono ?_
      rintro e w11 ⟨vv, rfl, ie, be⟩
      clear c00 c01 c02 c20 c21 c22 c23 c24 c25
      have hbw := be
      obtain ⟨A3, c3, B3, k3, A4, c4, B4, k4, rfl, iq3, iq4⟩ := ie.form
      replace L := ((L.step be).q iq4).q iq3
      clear be ie iq3 iq4
      obtain ⟨gx, hgx⟩ : ∃ gx, wr.heap.size = gx := ⟨_, rfl⟩
      have hbv : Below w1.heap.size w1 w11 := (hbe.alloc hbs _).trans (hbw.mono (Nat.le_trans hbs (by simp)))
      have hownw : OwnRa w11 w1.heap.size _ (List.take (2 * 0) [(a5, d5), (a6, d6), (a7, d7), (a8, d8)]) := (HOWN0.out.below ((Below.refl _ _).alloc (Nat.le_refl _) _)).below hbw
      have hne : ∀ g, (_ : Value).ownBlock = some g → g ≠ gx := fun g hg => by
        obtain ⟨xs, h1, _⟩ := HOWN0.out
        have := (h1.1.lt g hg).2
        omega
      rw [hgx] at L ⊢
      have hv0 := L.b0
      have iqx : IsP w11 (.agg #[.bool (ng a1), .slice A1 (zl a1) c1, .slice B1 (len d1) k1]) a1 d1 := L.getQ (by simp)
      have iq3 : IsP w11 (.agg #[.bool (ng a3), .slice A3 (zl a3) c3, .slice B3 (len d3) k3]) a3 d3 := L.getQ (by simp)
      have iq4 : IsP w11 (.agg #[.bool (ng a4), .slice A4 (zl a4) c4, .slice B4 (len d4) k4]) a4 d4 := L.getQ (by simp)
      clear L hbw HOWN0
      go_wp2_with fail
      go_loopw [8, 20] (fun s i wr => ∃ u : Nat, i = .int .i64 (u : Int) ∧ u ≤ 2 ∧ Below w1.heap.size w1 wr ∧ OwnRa wr w1.heap.size s (List.take (0 + u) [(a5, d5), (a6, d6), (a7, d7), (a8, d8)]) ∧ Var wr gx 45 #[.bool (ng a1), .slice A1 (zl a1) c1, .slice B1 (len d1) k1] ∧ IsP wr (.agg #[.bool (ng a1), .slice A1 (zl a1) c1, .slice B1 (len d1) k1]) a1 d1 ∧ IsP wr (.agg #[.bool (ng a3), .slice A3 (zl a3) c3, .slice B3 (len d3) k3]) a3 d3 ∧ IsP wr (.agg #[.bool (ng a4), .slice A4 (zl a4) c4, .slice B4 (len d4) k4]) a4 d4 ∧ Hid (∀ g, s.ownBlock = some g → g ≠ gx)) (fun _ i _ => 2 - (intOf i).toNat)
      case atStart => exact ⟨0, rfl, by omega, hbv, hownw, hv0, iqx, iq3, iq4, Lib.hid hne⟩
      case round =>
        clear hbv hownw hv0 iqx iq3 iq4 hne hbe hbs
        obtain ⟨u, rfl, hu, hbe, hown, hv0, iqx, iq3, iq4, hne⟩ := hrel
        have hbs := hbe.size
        rcases (show u = 2 ∨ u = 0 ∨ u = 1 by omega) with rfl | rfl | rfl
        · go_wp2_with fail
          go_roundw
          case rel => exact ⟨0 + 1, by go_num, by omega, hbe, hown⟩
          case measure => simp [intOf]
        · have HOWN := Lib.hid hown
          clear hown
          have hlx := hv0.lt
          have L := ((((Lq.mk0 wr).q iq4).q iq3).q iqx).b hv0
          clear hv0 iq4 iq3 iqx
          replace L := L.varQ wr.heap.size rfl (ng a3) A3 B3 (zl a3) c3 (len d3) k3
          have c00 := L.b0.c30
          have c01 := L.b0.c31
          have c02 := L.b0.c32
          have c10 := L.tl.b0.c30
          have c11 := L.tl.b0.c31
          have c12 := L.tl.b0.c32
          go_wp2_with fail
          refine (OP5.out _ _ _ (L.getQ (v := .agg #[.bool (ng a1), .slice A1 (zl a1) c1, .slice B1 (len d1) k1]) (a := a1) (d := d1) (by simp)) (L.getQ (v := .agg #[.bool (ng a3), .slice A3 (zl a3) c3, .slice B3 (len d3) k3]) (a := a3) (d := d3) (by simp))).mono ?_
          rintro e w21 ⟨vq, rfl, iq, be⟩
          clear c00 c01 c02 c10 c11 c12
          obtain ⟨A8, c8, B8, k8, rfl, _, _, _⟩ := iq.form
          replace L := (L.step be).q iq
          clear be iq
          go_wp2_with (at_builtin; refine wp_appRb _ rfl _ _ rfl w1.heap.size _ (List.take (0 + 0) [(a5, d5), (a6, d6), (a7, d7), (a8, d8)]) rfl (HOWN.out.below (L.below.alloc L.below.size _)) _ 1 rfl (lit3_cells _ _ _ _ _ _ (by simp)) ((L.getQ (v := .agg #[.bool (ng a5), .slice A8 (zl a5) c8, .slice B8 (len d5) k8]) (a := a5) (d := d5) (by simp)).mono ((Below.refl _ _).alloc (Nat.le_refl _) _)) (by simp) (Nat.le_trans hbs (Nat.le_trans L.below.size (by simp))) ?_)
          intro vN wN hN gN kp on
          have b2 : Below w1.heap.size w1 wN := ((hbe.trans (L.below.mono hbs)).alloc (Nat.le_trans hbs L.below.size) _).grown gN (Nat.le_trans hbs (Nat.le_trans L.below.size (by simp))) (fun k hk => HOWN.out.blockGe k hk)
          have hv2 : Var wN gx 45 #[.bool (ng a1), .slice A1 (zl a1) c1, .slice B1 (len d1) k1] := (L.tl.b0.mono ((Below.refl _ _).alloc (Nat.le_refl _) _)).kept gN (fun e9 => hne.out _ e9 rfl)
          have jx := IsP.map kp ((L.getQ (v := .agg #[.bool (ng a1), .slice A1 (zl a1) c1, .slice B1 (len d1) k1]) (a := a1) (d := d1) (by simp)).mono ((Below.refl _ _).alloc (Nat.le_refl _) _))
          have j3 := IsP.map kp ((L.getQ (v := .agg #[.bool (ng a3), .slice A3 (zl a3) c3, .slice B3 (len d3) k3]) (a := a3) (d := d3) (by simp)).mono ((Below.refl _ _).alloc (Nat.le_refl _) _))
          have j4 := IsP.map kp ((L.getQ (v := .agg #[.bool (ng a4), .slice A4 (zl a4) c4, .slice B4 (len d4) k4]) (a := a4) (d := d4) (by simp)).mono ((Below.refl _ _).alloc (Nat.le_refl _) _))
          have hsz := L.below.size
          have hn2 : ∀ g, vN.ownBlock = some g → g ≠ gx := fun g hg => by
            rcases on g hg with h | h
            · exact hne.out g h
            · first | omega | (simp at h hsz; omega) | (simp at h; omega) | (simp at hsz; omega)
          clear L gN kp on hbe hsz
          go_wp2_with fail
          go_roundw
          case rel => exact ⟨0 + 1, by go_num, by omega, b2, hN, hv2, jx, j3, j4, Lib.hid hn2⟩
          case measure => simp [intOf]
        · have HOWN := Lib.hid hown
          clear hown
          have hlx := hv0.lt
          have L := ((((Lq.mk0 wr).q iq4).q iq3).q iqx).b hv0
          clear hv0 iq4 iq3 iqx
          replace L := L.varQ wr.heap.size rfl (ng a4) A4 B4 (zl a4) c4 (len d4) k4
          have c00 := L.b0.c30
          have c01 := L.b0.c31
          have c02 := L.b0.c32
          have c10 := L.tl.b0.c30
          have c11 := L.tl.b0.c31
          have c12 := L.tl.b0.c32
          go_wp2_with fail
          refine (OP6.out _ _ _ (L.getQ (v := .agg #[.bool (ng a1), .slice A1 (zl a1) c1, .slice B1 (len d1) k1]) (a := a1) (d := d1) (by simp)) (L.getQ (v := .agg #[.bool (ng a4), .slice A4 (zl a4) c4, .slice B4 (len d4) k4]) (a := a4) (d := d4) (by simp))).mono ?_
          rintro e w21 ⟨vq, rfl, iq, be⟩
          clear c00 c01 c02 c10 c11 c12
          obtain ⟨A8, c8, B8, k8, rfl, _, _, _⟩ := iq.form
          replace L := (L.step be).q iq
          clear be iq
          go_wp2_with (at_builtin; refine wp_appRb _ rfl _ _ rfl w1.heap.size _ (List.take (0 + 1) [(a5, d5), (a6, d6), (a7, d7), (a8, d8)]) rfl (HOWN.out.below (L.below.alloc L.below.size _)) _ 1 rfl (lit3_cells _ _ _ _ _ _ (by simp)) ((L.getQ (v := .agg #[.bool (ng a6), .slice A8 (zl a6) c8, .slice B8 (len d6) k8]) (a := a6) (d := d6) (by simp)).mono ((Below.refl _ _).alloc (Nat.le_refl _) _)) (by simp) (Nat.le_trans hbs (Nat.le_trans L.below.size (by simp))) ?_)
          intro vN wN hN gN kp on
          have b2 : Below w1.heap.size w1 wN := ((hbe.trans (L.below.mono hbs)).alloc (Nat.le_trans hbs L.below.size) _).grown gN (Nat.le_trans hbs (Nat.le_trans L.below.size (by simp))) (fun k hk => HOWN.out.blockGe k hk)
          have hv2 : Var wN gx 45 #[.bool (ng a1), .slice A1 (zl a1) c1, .slice B1 (len d1) k1] := (L.tl.b0.mono ((Below.refl _ _).alloc (Nat.le_refl _) _)).kept gN (fun e9 => hne.out _ e9 rfl)
          have jx := IsP.map kp ((L.getQ (v := .agg #[.bool (ng a1), .slice A1 (zl a1) c1, .slice B1 (len d1) k1]) (a := a1) (d := d1) (by simp)).mono ((Below.refl _ _).alloc (Nat.le_refl _) _))
          have j3 := IsP.map kp ((L.getQ (v := .agg #[.bool (ng a3), .slice A3 (zl a3) c3, .slice B3 (len d3) k3]) (a := a3) (d := d3) (by simp)).mono ((Below.refl _ _).alloc (Nat.le_refl _) _))
          have j4 := IsP.map kp ((L.getQ (v := .agg #[.bool (ng a4), .slice A4 (zl a4) c4, .slice B4 (len d4) k4]) (a := a4) (d := d4) (by simp)).mono ((Below.refl _ _).alloc (Nat.le_refl _) _))
          have hsz := L.below.size
          have hn2 : ∀ g, vN.ownBlock = some g → g ≠ gx := fun g hg => by
            rcases on g hg with h | h
            · exact hne.out g h
            · first | omega | (simp at h hsz; omega) | (simp at h; omega) | (simp at hsz; omega)
          clear L gN kp on hbe hsz
          go_wp2_with fail
          go_roundw
          case rel => exact ⟨1 + 1, by go_num, by omega, b2, hN, hv2, jx, j3, j4, Lib.hid hn2⟩
          case measure => simp [intOf]
    · have HOWN0 := Lib.hid hown
      clear hown
      have L := (LL.out.step hbe).varQ wr.heap.size rfl (ng a2) A2 B2 (zl a2) c2 (len d2) k2
      have c00 := L.b0.c30
      have c01 := L.b0.c31
      have c02 := L.b0.c32
      have c20 := L.tl.tl.b0.c60
      have c21 := L.tl.tl.b0.c61
      have c22 := L.tl.tl.b0.c62
      have c23 := L.tl.tl.b0.c63
      have c24 := L.tl.tl.b0.c64
      have c25 := L.tl.tl.b0.c65
      go_wp2_with fail
      refine (HE2.out _ _ (isI_n (m := m2) (e := e2) (n := n2) (f := f2) (L.getN (v := .slice C2 (zl m2) h2) (x := (m2).natAbs) (by simp)) (L.getN (v := .slice D2 (zl n2) i2) (x := (n2).natAbs) (by simp)))).mono ?_
      rintro e w11 ⟨vv, rfl, ie, be⟩
      clear c00 c01 c02 c20 c21 c22 c23 c24 c25
      have hbw := be
      obtain ⟨A3, c3, B3, k3, A4, c4, B4, k4, rfl, iq3, iq4⟩ := ie.form
      replace L := ((L.step be).q iq4).q iq3
      clear be ie iq3 iq4
      obtain ⟨gx, hgx⟩ : ∃ gx, wr.heap.size = gx := ⟨_, rfl⟩
      have hbv : Below w1.heap.size w1 w11 := (hbe.alloc hbs _).trans (hbw.mono (Nat.le_trans hbs (by simp)))
      have hownw : OwnRa w11 w1.heap.size _ (List.take (2 * 1) [(a5, d5), (a6, d6), (a7, d7), (a8, d8)]) := (HOWN0.out.below ((Below.refl _ _).alloc (Nat.le_refl _) _)).below hbw
      have hne : ∀ g, (_ : Value).ownBlock = some g → g ≠ gx := fun g hg => by
        obtain ⟨xs, h1, _⟩ := HOWN0.out
        have := (h1.1.lt g hg).2
        omega
      rw [hgx] at L ⊢
      have hv0 := L.b0
      have iqx : IsP w11 (.agg #[.bool (ng a2), .slice A2 (zl a2) c2, .slice B2 (len d2) k2]) a2 d2 := L.getQ (by simp)
      have iq3 : IsP w11 (.agg #[.bool (ng a3), .slice A3 (zl a3) c3, .slice B3 (len d3) k3]) a3 d3 := L.getQ (by simp)
      have iq4 : IsP w11 (.agg #[.bool (ng a4), .slice A4 (zl a4) c4, .slice B4 (len d4) k4]) a4 d4 := L.getQ (by simp)
      clear L hbw HOWN0
      go_wp2_with fail
      go_loopw [8, 20] (fun s i wr => ∃ u : Nat, i = .int .i64 (u : Int) ∧ u ≤ 2 ∧ Below w1.heap.size w1 wr ∧ OwnRa wr w1.heap.size s (List.take (2 + u) [(a5, d5), (a6, d6), (a7, d7), (a8, d8)]) ∧ Var wr gx 45 #[.bool (ng a2), .slice A2 (zl a2) c2, .slice B2 (len d2) k2] ∧ IsP wr (.agg #[.bool (ng a2), .slice A2 (zl a2) c2, .slice B2 (len d2) k2]) a2 d2 ∧ IsP wr (.agg #[.bool (ng a3), .slice A3 (zl a3) c3, .slice B3 (len d3) k3]) a3 d3 ∧ IsP wr (.agg #[.bool (ng a4), .slice A4 (zl a4) c4, .slice B4 (len d4) k4]) a4 d4 ∧ Hid (∀ g, s.ownBlock = some g → g ≠ gx)) (fun _ i _ => 2 - (intOf i).toNat)
      case atStart => exact ⟨0, rfl, by omega, hbv, hownw, hv0, iqx, iq3, iq4, Lib.hid hne⟩
      case round =>
        clear hbv hownw hv0 iqx iq3 iq4 hne hbe hbs
        obtain ⟨u, rfl, hu, hbe, hown, hv0, iqx, iq3, iq4, hne⟩ := hrel
        have hbs := hbe.size
        rcases (show u = 2 ∨ u = 0 ∨ u = 1 by omega) with rfl | rfl | rfl
        · go_wp2_with fail
          go_roundw
          case rel => exact ⟨1 + 1, by go_num, by omega, hbe, hown⟩
          case measure => simp [intOf]
        · have HOWN := Lib.hid hown
          clear hown
          have hlx := hv0.lt
          have L := ((((Lq.mk0 wr).q iq4).q iq3).q iqx).b hv0
          clear hv0 iq4 iq3 iqx
          replace L := L.varQ wr.heap.size rfl (ng a3) A3 B3 (zl a3) c3 (len d3) k3
          have c00 := L.b0.c30
          have c01 := L.b0.c31
          have c02 := L.b0.c32
          have c10 := L.tl.b0.c30
          have c11 := L.tl.b0.c31
          have c12 := L.tl.b0.c32
          go_wp2_with fail
          refine (OP7.out _ _ _ (L.getQ (v := .agg #[.bool (ng a2), .slice A2 (zl a2) c2, .slice B2 (len d2) k2]) (a := a2) (d := d2) (by simp)) (L.getQ (v := .agg #[.bool (ng a3), .slice A3 (zl a3) c3, .slice B3 (len d3) k3]) (a := a3) (d := d3) (by simp))).mono ?_
          rintro e w21 ⟨vq, rfl, iq, be⟩
          clear c00 c01 c02 c10 c11 c12
          obtain ⟨A8, c8, B8, k8, rfl, _, _, _⟩ := iq.form
          replace L := (L.step be).q iq
          clear be iq
          go_wp2_with (at_builtin; refine wp_appRb _ rfl _ _ rfl w1.heap.size _ (List.take (2 + 0) [(a5, d5), (a6, d6), (a7, d7), (a8, d8)]) rfl (HOWN.out.below (L.below.alloc L.below.size _)) _ 1 rfl (lit3_cells _ _ _ _ _ _ (by simp)) ((L.getQ (v := .agg #[.bool (ng a7), .slice A8 (zl a7) c8, .slice B8 (len d7) k8]) (a := a7) (d := d7) (by simp)).mono ((Below.refl _ _).alloc (Nat.le_refl _) _)) (by simp) (Nat.le_trans hbs (Nat.le_trans L.below.size (by simp))) ?_)
          intro vN wN hN gN kp on
          have b2 : Below w1.heap.size w1 wN := ((hbe.trans (L.below.mono hbs)).alloc (Nat.le_trans hbs L.below.size) _).grown gN (Nat.le_trans hbs (Nat.le_trans L.below.size (by simp))) (fun k hk => HOWN.out.blockGe k hk)
          have hv2 : Var wN gx 45 #[.bool (ng a2), .slice A2 (zl a2) c2, .slice B2 (len d2) k2] := (L.tl.b0.mono ((Below.refl _ _).alloc (Nat.le_refl _) _)).kept gN (fun e9 => hne.out _ e9 rfl)
          have jx := IsP.map kp ((L.getQ (v := .agg #[.bool (ng a2), .slice A2 (zl a2) c2, .slice B2 (len d2) k2]) (a := a2) (d := d2) (by simp)).mono ((Below.refl _ _).alloc (Nat.le_refl _) _))
          have j3 := IsP.map kp ((L.getQ (v := .agg #[.bool (ng a3), .slice A3 (zl a3) c3, .slice B3 (len d3) k3]) (a := a3) (d := d3) (by simp)).mono ((Below.refl _ _).alloc (Nat.le_refl _) _))
          have j4 := IsP.map kp ((L.getQ (v := .agg #[.bool (ng a4), .slice A4 (zl a4) c4, .slice B4 (len d4) k4]) (a := a4) (d := d4) (by simp)).mono ((Below.refl _ _).alloc (Nat.le_refl _) _))
          have hsz := L.below.size
          have hn2 : ∀ g, vN.ownBlock = some g → g ≠ gx := fun g hg => by
            rcases on g hg with h | h
            · exact hne.out g h
            · first | omega | (simp at h hsz; omega) | (simp at h; omega) | (simp at hsz; omega)
          clear L gN kp on hbe hsz
          go_wp2_with fail
          go_roundw
          case rel => exact ⟨0 + 1, by go_num, by omega, b2, hN, hv2, jx, j3, j4, Lib.hid hn2⟩
          case measure => simp [intOf]
        · have HOWN := Lib.hid hown
          clear hown
          have hlx := hv0.lt
          have L := ((((Lq.mk0 wr).q iq4).q iq3).q iqx).b hv0
          clear hv0 iq4 iq3 iqx
          replace L := L.varQ wr.heap.size rfl (ng a4) A4 B4 (zl a4) c4 (len d4) k4
          have c00 := L.b0.c30
          have c01 := L.b0.c31
          have c02 := L.b0.c32
          have c10 := L.tl.b0.c30
          have c11 := L.tl.b0.c31
          have c12 := L.tl.b0.c32
          go_wp2_with fail
          refine (OP8.out _ _ _ (L.getQ (v := .agg #[.bool (ng a2), .slice A2 (zl a2) c2, .slice B2 (len d2) k2]) (a := a2) (d := d2) (by simp)) (L.getQ (v := .agg #[.bool (ng a4), .slice A4 (zl a4) c4, .slice B4 (len d4) k4]) (a := a4) (d := d4) (by simp))).mono ?_
          rintro e w21 ⟨vq, rfl, iq, be⟩
          clear c00 c01 c02 c10 c11 c12
          obtain ⟨A8, c8, B8, k8, rfl, _, _, _⟩ := iq.form
          replace L := (L.step be).q iq
          clear be iq
          go_wp2_with (at_builtin; refine wp_appRb _ rfl _ _ rfl w1.heap.size _ (List.take (2 + 1) [(a5, d5), (a6, d6), (a7, d7), (a8, d8)]) rfl (HOWN.out.below (L.below.alloc L.below.size _)) _ 1 rfl (lit3_cells _ _ _ _ _ _ (by simp)) ((L.getQ (v := .agg #[.bool (ng a8), .slice A8 (zl a8) c8, .slice B8 (len d8) k8]) (a := a8) (d := d8) (by simp)).mono ((Below.refl _ _).alloc (Nat.le_refl _) _)) (by simp) (Nat.le_trans hbs (Nat.le_trans L.below.size (by simp))) ?_)
          intro vN wN hN gN kp on
          have b2 : Below w1.heap.size w1 wN := ((hbe.trans (L.below.mono hbs)).alloc (Nat.le_trans hbs L.below.size) _).grown gN (Nat.le_trans hbs (Nat.le_trans L.below.size (by simp))) (fun k hk => HOWN.out.blockGe k hk)
          have hv2 : Var wN gx 45 #[.bool (ng a2), .slice A2 (zl a2) c2, .slice B2 (len d2) k2] := (L.tl.b0.mono ((Below.refl _ _).alloc (Nat.le_refl _) _)).kept gN (fun e9 => hne.out _ e9 rfl)
          have jx := IsP.map kp ((L.getQ (v := .agg #[.bool (ng a2), .slice A2 (zl a2) c2, .slice B2 (len d2) k2]) (a := a2) (d := d2) (by simp)).mono ((Below.refl _ _).alloc (Nat.le_refl _) _))
          have j3 := IsP.map kp ((L.getQ (v := .agg #[.bool (ng a3), .slice A3 (zl a3) c3, .slice B3 (len d3) k3]) (a := a3) (d := d3) (by simp)).mono ((Below.refl _ _).alloc (Nat.le_refl _) _))
          have j4 := IsP.map kp ((L.getQ (v := .agg #[.bool (ng a4), .slice A4 (zl a4) c4, .slice B4 (len d4) k4]) (a := a4) (d := d4) (by simp)).mono ((Below.refl _ _).alloc (Nat.le_refl _) _))
          have hsz := L.below.size
          have hn2 : ∀ g, vN.ownBlock = some g → g ≠ gx := fun g hg => by
            rcases on g hg with h | h
            · exact hne.out g h
            · first | omega | (simp at h hsz; omega) | (simp at h; omega) | (simp at hsz; omega)
          clear L gN kp on hbe hsz
          go_wp2_with fail
          go_roundw
          case rel => exact ⟨1 + 1, by go_num, by omega, b2, hN, hv2, jx, j3, j4, Lib.hid hn2⟩
          case measure => simp [intOf]

end Go.Proofs.YtoobcngbnjeddaaGreatDoor
