/- The walk of ConstantTight: whatever the input, the law returns true and turns nothing that was there. -/
import Derived.Test.YtfnklkdbieikeaaGreatDoorAwake13
import Derived.Test.YtfnklkdbieikeaaGreatDoorCpF
import Derived.Test.YtfnklkdbieikeaaGreatDoorCoS
import Derived.Test.YtfnklkdbieikeaaGreatDoorMillAr
import Derived.Test.YtfnklkdbieikeaaGreatDoorRefCoJ
import Derived.Deep.RegionHeld3
import Derived.Deep.DrawnRows
import Derived.Deep.Cut
import Derived.Deep.CutRange
namespace Go.Proofs.YtfnklkdbieikeaaGreatDoor
open Go.RowKit
set_option linter.unusedVariables false
set_option linter.unusedSimpArgs false
set_option maxRecDepth 100000
attribute [local go_sem ↓] Go.wp_at_zero Go.wp_at_succ

set_option maxHeartbeats 64000000 in
theorem walk_ConstantTight (a0 : Int) (w : World) (h0 : -9223372036854775808 ≤ a0 ∧ a0 ≤ 9223372036854775807) (hT : Tab w) :
    Calls Tryz.prog 3 #[.int .i64 a0] w (fun e w' => e = .returned (.bool true) ∧ Below w.heap.size w w') := by
  have HT := Lib.hid (fun W (hW : Below w.heap.size w W) => hT.mono hW)
  clear hT
  go_enter Tryz.func3, Tryz.ntmps3
  go_wp2_with fail
  have L := (Lq.mk0 w)
  (try go_wp2_with fail)
  refine (awake13_any _ (HT.out _ L.below)).mono ?_
  rintro e9 w1 ⟨rfl, be⟩
  replace L := L.step be
  clear be
  obtain ⟨r1, hr1⟩ : ∃ r : Nat, a0 % 300 = (r : Int) := ⟨(a0 % 300).toNat, by omega⟩
  obtain ⟨r2, hr2⟩ : ∃ r : Nat, a0 % 6 = (r : Int) := ⟨(a0 % 6).toNat, by omega⟩
  have o1 := fun W => mod_any a0 300 W (by omega) (by omega) h0.1 h0.2
  have o2 := fun W => mod_any a0 6 W (by omega) (by omega) h0.1 h0.2
  rw [hr1] at o1
  rw [hr2] at o2
  have hb1 : r1 < 300 := by omega
  have hb2 : r2 < 300 := by omega
  have MO1 := Lib.hid o1
  have MO2 := Lib.hid o2
  clear o1 o2 hr1 hr2 h0
  (try go_wp2_with fail)
  refine (MO1.out _).mono ?_
  rintro e9 w' ⟨rfl, rfl⟩
  (try go_wp2_with fail)
  refine (MO2.out _).mono ?_
  rintro e9 w' ⟨rfl, rfl⟩
  have hl0 := L.below.size
  replace L := L.var w1.heap.size rfl 3 #[.int .i64 (r1 : Int), .int .i64 (r2 : Int)] (plainI2 _ _)
  have p0 := L.b0.c20
  have p1 := L.b0.c21
  (try go_wp2_with fail)
  clear p0 p1
  obtain ⟨gs, hgs⟩ : ∃ g9, w1.heap.size = g9 := ⟨_, rfl⟩
  rw [hgs] at L hl0 ⊢
  clear hgs
  go_loopw [17] (fun i wr => ∃ (t : Nat), i = .int .i64 (t : Int) ∧ t ≤ 2 ∧ Lq w wr [] [] [] [(gs, 3, #[.int .i64 (r1 : Int), .int .i64 (r2 : Int)])]) (fun i _ => 2 - (intOf i).toNat)
  case atStart => exact ⟨0, by go_num, by omega, L⟩
  case round =>
    clear L
    obtain ⟨t, rfl, ht, L⟩ := hrel
    rcases Nat.eq_or_lt_of_le ht with rfl | ht2
    · go_wp2_with fail
      go_ret
      exact ⟨rfl, L.below⟩
    obtain ⟨k, hk, hc⟩ : ∃ k : Nat, k < 300 ∧ wr.cell? ⟨gs, t, none⟩ = some (.int .i64 (k : Int)) := by
      rcases (show t = 0 ∨ t = 1 by omega) with rfl | rfl
      · exact ⟨r1, hb1, L.b0.c20⟩
      · exact ⟨r2, hb2, L.b0.c21⟩
    have hlt : (t : Int) < 2 := by omega
    have ht0 : (0 : Int) ≤ (t : Int) := by omega
    have w3 : IntKind.i64.wrap ((t : Int) + 1) = (t : Int) + 1 := by rw [IntKind.wrap_i64]; omega
    obtain ⟨T1, x1, C1⟩ := cst_pi (k := k) (by omega)
    obtain ⟨⟨a11, a12, a13⟩, ⟨b11, b12, b13⟩, _, _, c11, c12, c13⟩ := C1
    obtain ⟨⟨d11, d12, d13⟩, ⟨e11, e12, e13⟩, f11, f12⟩ := knw_pi (k := k) hk
    obtain ⟨T2, x2, C2⟩ := cst_ex (k := k) (by omega)
    obtain ⟨⟨a21, a22, a23⟩, ⟨b21, b22, b23⟩, _, _, c21, c22, c23⟩ := C2
    obtain ⟨⟨d21, d22, d23⟩, ⟨e21, e22, e23⟩, f21, f22⟩ := knw_ex (k := k) hk
    obtain ⟨T3, x3, C3⟩ := cst_ln (k := k) (by omega)
    obtain ⟨⟨a31, a32, a33⟩, ⟨b31, b32, b33⟩, _, _, c31, c32, c33⟩ := C3
    obtain ⟨⟨d31, d32, d33⟩, ⟨e31, e32, e33⟩, f31, f32⟩ := knw_ln (k := k) hk
    have ot : ∀ W, Below w.heap.size w W → Calls Tryz.prog 10 #[.int .i64 (k : Int)] W (RetTE W (aM T1 k) (aE T1 k) (bM T1 k) (bE T1 k) (aM T2 k) (aE T2 k) (bM T2 k) (bE T2 k) (aM T3 k) (aE T3 k) (bM T3 k) (bE T3 k) 0 0 0) := fun W hW => three_yes k T1 T2 T3 W (by omega) (HT.out W hW) x1 x2 x3
    have oy : ∀ W, Calls Tryz.prog 11 #[.int .i64 (k : Int)] W (RetT W (loM (piL (k + 40)) k) (loE (piL (k + 40)) k) (hiM (piH (k + 40)) k) (hiE (piH (k + 40)) k) (loM (exL (k + 40)) k) (loE (exL (k + 40)) k) (hiM (exH (k + 40)) k) (hiE (exH (k + 40)) k) (loM (lnL (k + 40)) k) (loE (lnL (k + 40)) k) (hiM (lnH (k + 40)) k) (hiE (lnH (k + 40)) k)) := fun W => known13_any k W (by omega)
    have tg1 : ∀ v W, IsI W v (aM T1 k) (aE T1 k) (bM T1 k) (bE T1 k) → Calls Tryz.prog 12 #[v, .int .i64 (k : Int)] W (RetB W true) := fun v W h => by
      have s := s13tight_any (aM T1 k) (aE T1 k) (bM T1 k) (bE T1 k) (k : Int) v W h (by omega) (by omega) (by omega) (by omega) a13 b13 (by omega) (by omega)
      rwa [c13] at s
    have tc1 : ∀ v u W, IsI W v (aM T1 k) (aE T1 k) (bM T1 k) (bE T1 k) → IsI W u (loM (piL (k + 40)) k) (loE (piL (k + 40)) k) (hiM (piH (k + 40)) k) (hiE (piH (k + 40)) k) → Calls Tryz.prog 13 #[v, u] W (RetB W true) := fun v u W h j => by
      have s := s13touches_any (aM T1 k) (aE T1 k) (bM T1 k) (bE T1 k) (loM (piL (k + 40)) k) (loE (piL (k + 40)) k) (hiM (piH (k + 40)) k) (hiE (piH (k + 40)) k) v u W h j (by omega) (by omega) (by omega) (by omega) (by omega) (by omega) (by omega) (by omega) 
      rwa [show (icm (aM T1 k) (aE T1 k) (bM T1 k) (bE T1 k) (loM (piL (k + 40)) k) (loE (piL (k + 40)) k) (hiM (piH (k + 40)) k) (hiE (piH (k + 40)) k) == 0) = true from by rw [icm_meet (Rat.le_trans f11 c12) (Rat.le_trans c11 f12)]; rfl] at s
    have tg2 : ∀ v W, IsI W v (aM T2 k) (aE T2 k) (bM T2 k) (bE T2 k) → Calls Tryz.prog 12 #[v, .int .i64 (k : Int)] W (RetB W true) := fun v W h => by
      have s := s13tight_any (aM T2 k) (aE T2 k) (bM T2 k) (bE T2 k) (k : Int) v W h (by omega) (by omega) (by omega) (by omega) a23 b23 (by omega) (by omega)
      rwa [c23] at s
    have tc2 : ∀ v u W, IsI W v (aM T2 k) (aE T2 k) (bM T2 k) (bE T2 k) → IsI W u (loM (exL (k + 40)) k) (loE (exL (k + 40)) k) (hiM (exH (k + 40)) k) (hiE (exH (k + 40)) k) → Calls Tryz.prog 13 #[v, u] W (RetB W true) := fun v u W h j => by
      have s := s13touches_any (aM T2 k) (aE T2 k) (bM T2 k) (bE T2 k) (loM (exL (k + 40)) k) (loE (exL (k + 40)) k) (hiM (exH (k + 40)) k) (hiE (exH (k + 40)) k) v u W h j (by omega) (by omega) (by omega) (by omega) (by omega) (by omega) (by omega) (by omega) 
      rwa [show (icm (aM T2 k) (aE T2 k) (bM T2 k) (bE T2 k) (loM (exL (k + 40)) k) (loE (exL (k + 40)) k) (hiM (exH (k + 40)) k) (hiE (exH (k + 40)) k) == 0) = true from by rw [icm_meet (Rat.le_trans f21 c22) (Rat.le_trans c21 f22)]; rfl] at s
    have tg3 : ∀ v W, IsI W v (aM T3 k) (aE T3 k) (bM T3 k) (bE T3 k) → Calls Tryz.prog 12 #[v, .int .i64 (k : Int)] W (RetB W true) := fun v W h => by
      have s := s13tight_any (aM T3 k) (aE T3 k) (bM T3 k) (bE T3 k) (k : Int) v W h (by omega) (by omega) (by omega) (by omega) a33 b33 (by omega) (by omega)
      rwa [c33] at s
    have tc3 : ∀ v u W, IsI W v (aM T3 k) (aE T3 k) (bM T3 k) (bE T3 k) → IsI W u (loM (lnL (k + 40)) k) (loE (lnL (k + 40)) k) (hiM (lnH (k + 40)) k) (hiE (lnH (k + 40)) k) → Calls Tryz.prog 13 #[v, u] W (RetB W true) := fun v u W h j => by
      have s := s13touches_any (aM T3 k) (aE T3 k) (bM T3 k) (bE T3 k) (loM (lnL (k + 40)) k) (loE (lnL (k + 40)) k) (hiM (lnH (k + 40)) k) (hiE (lnH (k + 40)) k) v u W h j (by omega) (by omega) (by omega) (by omega) (by omega) (by omega) (by omega) (by omega) 
      rwa [show (icm (aM T3 k) (aE T3 k) (bM T3 k) (bE T3 k) (loM (lnL (k + 40)) k) (loE (lnL (k + 40)) k) (hiM (lnH (k + 40)) k) (hiE (lnH (k + 40)) k) == 0) = true from by rw [icm_meet (Rat.le_trans f31 c32) (Rat.le_trans c31 f32)]; rfl] at s
    clear a11 a12 a13 b11 b12 b13 c11 c12 c13 d11 d12 d13 e11 e12 e13 f11 f12 x1 a21 a22 a23 b21 b22 b23 c21 c22 c23 d21 d22 d23 e21 e22 e23 f21 f22 x2 a31 a32 a33 b31 b32 b33 c31 c32 c33 d31 d32 d33 e31 e32 e33 f31 f32 x3
    generalize aM T1 k = m1 at *
    generalize aE T1 k = e1 at *
    generalize bM T1 k = n1 at *
    generalize bE T1 k = f1 at *
    generalize loM (piL (k + 40)) k = p1 at *
    generalize loE (piL (k + 40)) k = q1 at *
    generalize hiM (piH (k + 40)) k = r1' at *
    generalize hiE (piH (k + 40)) k = s1 at *
    generalize aM T2 k = m2 at *
    generalize aE T2 k = e2 at *
    generalize bM T2 k = n2 at *
    generalize bE T2 k = f2 at *
    generalize loM (exL (k + 40)) k = p2 at *
    generalize loE (exL (k + 40)) k = q2 at *
    generalize hiM (exH (k + 40)) k = r2' at *
    generalize hiE (exH (k + 40)) k = s2 at *
    generalize aM T3 k = m3 at *
    generalize aE T3 k = e3 at *
    generalize bM T3 k = n3 at *
    generalize bE T3 k = f3 at *
    generalize loM (lnL (k + 40)) k = p3 at *
    generalize loE (lnL (k + 40)) k = q3 at *
    generalize hiM (lnH (k + 40)) k = r3' at *
    generalize hiE (lnH (k + 40)) k = s3 at *
    have OT := Lib.hid ot
    have OY := Lib.hid oy
    have TG1 := Lib.hid tg1
    have TC1 := Lib.hid tc1
    have TG2 := Lib.hid tg2
    have TC2 := Lib.hid tc2
    have TG3 := Lib.hid tg3
    have TC3 := Lib.hid tc3
    clear ot oy tg1 tc1 tg2 tc2 tg3 tc3
    (try go_wp2_with fail)
    refine (OT.out _ L.below).mono ?_
    rintro e w11 ⟨vv, rfl, it, be⟩
    obtain ⟨xA1, xc1, xB1, xd1, xA2, xc2, xB2, xd2, xA3, xc3, xB3, xd3, rfl, i1, i2, i3, i4, i5, i6⟩ := it.form
    replace L := ((((((L.step be).n i6).n i5).n i4).n i3).n i2).n i1
    clear be it i1 i2 i3 i4 i5 i6
    have hgx0 := L.b0.lt
    replace L := L.varT w11.heap.size rfl (ng m1) xA1 (zl m1) xc1 e1 (ng n1) xB1 (zl n1) xd1 f1 (ng m2) xA2 (zl m2) xc2 e2 (ng n2) xB2 (zl n2) xd2 f2 (ng m3) xA3 (zl m3) xc3 e3 (ng n3) xB3 (zl n3) xd3 f3
    replace L := L.varE3 (w11.heap.size + 1) (by simp) 0 0 0
    have t0' := L.tl.b0.cT0
    have t1' := L.tl.b0.cT1
    have t2' := L.tl.b0.cT2
    have t3' := L.tl.b0.cT3
    have t4' := L.tl.b0.cT4
    have t5' := L.tl.b0.cT5
    have t6' := L.tl.b0.cT6
    have t7' := L.tl.b0.cT7
    have t8' := L.tl.b0.cT8
    have t9' := L.tl.b0.cT9
    have t10' := L.tl.b0.cT10
    have t11' := L.tl.b0.cT11
    have t12' := L.tl.b0.cT12
    have t13' := L.tl.b0.cT13
    have t14' := L.tl.b0.cT14
    have t15' := L.tl.b0.cT15
    have t16' := L.tl.b0.cT16
    have t17' := L.tl.b0.cT17
    have u0' := L.b0.c30
    have u1' := L.b0.c31
    have u2' := L.b0.c32
    go_wp2_with (refine wp_storeNew2 _ rfl 32 34 _ _ rfl #[.bool false, .slice none 0 0, .int .i64 0, .bool false, .slice none 0 0, .int .i64 0, .bool false, .slice none 0 0, .int .i64 0, .bool false, .slice none 0 0, .int .i64 0, .bool false, .slice none 0 0, .int .i64 0, .bool false, .slice none 0 0, .int .i64 0] #[.bool (ng m1), .slice xA1 (zl m1) xc1, .int .i64 e1, .bool (ng n1), .slice xB1 (zl n1) xd1, .int .i64 f1, .bool (ng m2), .slice xA2 (zl m2) xc2, .int .i64 e2, .bool (ng n2), .slice xB2 (zl n2) xd2, .int .i64 f2, .bool (ng m3), .slice xA3 (zl m3) xc3, .int .i64 e3, .bool (ng n3), .slice xB3 (zl n3) xd3, .int .i64 f3] _ rfl rfl (by kernel_rfl) rfl (by simp [Value.oneCell']) ?_)
    clear t0' t1' t2' t3' t4' t5' t6' t7' t8' t9' t10' t11' t12' t13' t14' t15' t16' t17' u0' u1' u2'
    obtain ⟨gx, hgx⟩ : ∃ g9, w11.heap.size = g9 := ⟨_, rfl⟩
    rw [hgx] at L hgx0 ⊢
    clear hgx
    clear hc
    (try go_wp2_with fail)
    refine (OY.out _).mono ?_
    rintro e w12 ⟨vv, rfl, it, be⟩
    obtain ⟨yA1, yc1, yB1, yd1, yA2, yc2, yB2, yd2, yA3, yc3, yB3, yd3, rfl, i1, i2, i3, i4, i5, i6⟩ := it.form
    replace L := ((((((L.step be).n i6).n i5).n i4).n i3).n i2).n i1
    clear be it i1 i2 i3 i4 i5 i6
    have hgy0 := L.b0.lt
    replace L := L.varT w12.heap.size rfl (ng p1) yA1 (zl p1) yc1 q1 (ng r1') yB1 (zl r1') yd1 s1 (ng p2) yA2 (zl p2) yc2 q2 (ng r2') yB2 (zl r2') yd2 s2 (ng p3) yA3 (zl p3) yc3 q3 (ng r3') yB3 (zl r3') yd3 s3
    have t0' := L.b0.cT0
    have t1' := L.b0.cT1
    have t2' := L.b0.cT2
    have t3' := L.b0.cT3
    have t4' := L.b0.cT4
    have t5' := L.b0.cT5
    have t6' := L.b0.cT6
    have t7' := L.b0.cT7
    have t8' := L.b0.cT8
    have t9' := L.b0.cT9
    have t10' := L.b0.cT10
    have t11' := L.b0.cT11
    have t12' := L.b0.cT12
    have t13' := L.b0.cT13
    have t14' := L.b0.cT14
    have t15' := L.b0.cT15
    have t16' := L.b0.cT16
    have t17' := L.b0.cT17
    go_wp2_with (refine wp_storeNew1 _ rfl 32 _ _ rfl #[.bool false, .slice none 0 0, .int .i64 0, .bool false, .slice none 0 0, .int .i64 0, .bool false, .slice none 0 0, .int .i64 0, .bool false, .slice none 0 0, .int .i64 0, .bool false, .slice none 0 0, .int .i64 0, .bool false, .slice none 0 0, .int .i64 0] #[.bool (ng p1), .slice yA1 (zl p1) yc1, .int .i64 q1, .bool (ng r1'), .slice yB1 (zl r1') yd1, .int .i64 s1, .bool (ng p2), .slice yA2 (zl p2) yc2, .int .i64 q2, .bool (ng r2'), .slice yB2 (zl r2') yd2, .int .i64 s2, .bool (ng p3), .slice yA3 (zl p3) yc3, .int .i64 q3, .bool (ng r3'), .slice yB3 (zl r3') yd3, .int .i64 s3] rfl rfl (by kernel_rfl) rfl (by simp [Value.oneCell']) ?_)
    clear t0' t1' t2' t3' t4' t5' t6' t7' t8' t9' t10' t11' t12' t13' t14' t15' t16' t17'
    obtain ⟨gy, hgy⟩ : ∃ g9, w12.heap.size = g9 := ⟨_, rfl⟩
    rw [hgy] at L hgy0 ⊢
    clear hgy
    (try go_wp2_with fail)
    have hgs := L.tl.tl.tl.b0.lt
    go_loopw [28] (fun i wr => ∃ (j : Nat), i = .int .i64 (j : Int) ∧ j ≤ 3 ∧ Lq w wr [(.slice xA1 (zl m1) xc1, (m1 : Int).natAbs), (.slice xB1 (zl n1) xd1, (n1 : Int).natAbs), (.slice xA2 (zl m2) xc2, (m2 : Int).natAbs), (.slice xB2 (zl n2) xd2, (n2 : Int).natAbs), (.slice xA3 (zl m3) xc3, (m3 : Int).natAbs), (.slice xB3 (zl n3) xd3, (n3 : Int).natAbs), (.slice yA1 (zl p1) yc1, (p1 : Int).natAbs), (.slice yB1 (zl r1') yd1, (r1' : Int).natAbs), (.slice yA2 (zl p2) yc2, (p2 : Int).natAbs), (.slice yB2 (zl r2') yd2, (r2' : Int).natAbs), (.slice yA3 (zl p3) yc3, (p3 : Int).natAbs), (.slice yB3 (zl r3') yd3, (r3' : Int).natAbs)] [] [] [(gx + 1, 34, #[.int .i64 0, .int .i64 0, .int .i64 0]), (gx, 32, #[.bool (ng m1), .slice xA1 (zl m1) xc1, .int .i64 e1, .bool (ng n1), .slice xB1 (zl n1) xd1, .int .i64 f1, .bool (ng m2), .slice xA2 (zl m2) xc2, .int .i64 e2, .bool (ng n2), .slice xB2 (zl n2) xd2, .int .i64 f2, .bool (ng m3), .slice xA3 (zl m3) xc3, .int .i64 e3, .bool (ng n3), .slice xB3 (zl n3) xd3, .int .i64 f3]), (gy, 32, #[.bool (ng p1), .slice yA1 (zl p1) yc1, .int .i64 q1, .bool (ng r1'), .slice yB1 (zl r1') yd1, .int .i64 s1, .bool (ng p2), .slice yA2 (zl p2) yc2, .int .i64 q2, .bool (ng r2'), .slice yB2 (zl r2') yd2, .int .i64 s2, .bool (ng p3), .slice yA3 (zl p3) yc3, .int .i64 q3, .bool (ng r3'), .slice yB3 (zl r3') yd3, .int .i64 s3]), (gs, 3, #[.int .i64 (r1 : Int), .int .i64 (r2 : Int)])]) (fun i _ => 3 - (intOf i).toNat)
    case atStart => exact ⟨0, by go_num, by omega, L.subs (by simp) (by simp)⟩
    case round =>
      clear L
      obtain ⟨j, rfl, hj, L⟩ := hrel
      rcases (show j = 0 ∨ j = 1 ∨ j = 2 ∨ j = 3 by omega) with rfl | rfl | rfl | rfl
      · (try go_wp2_with fail)
        replace L := L.drew
        have u' := L.b0.c30
        have t0' := L.tl.b0.cT0
        have y0' := L.tl.tl.b0.cT0
        have t1' := L.tl.b0.cT1
        have y1' := L.tl.tl.b0.cT1
        have t2' := L.tl.b0.cT2
        have y2' := L.tl.tl.b0.cT2
        have t3' := L.tl.b0.cT3
        have y3' := L.tl.tl.b0.cT3
        have t4' := L.tl.b0.cT4
        have y4' := L.tl.tl.b0.cT4
        have t5' := L.tl.b0.cT5
        have y5' := L.tl.tl.b0.cT5
        go_region_held3 (fun w' => w'.cell? ⟨(gx + 1), 0, none⟩ = some (.int .i64 0) ∧ w'.cell? ⟨gx, 0, none⟩ = some (.bool (ng m1)) ∧ w'.cell? ⟨gx, 1, none⟩ = some (.slice xA1 (zl m1) xc1) ∧ w'.cell? ⟨gx, 2, none⟩ = some (.int .i64 e1) ∧ w'.cell? ⟨gx, 3, none⟩ = some (.bool (ng n1)) ∧ w'.cell? ⟨gx, 4, none⟩ = some (.slice xB1 (zl n1) xd1) ∧ w'.cell? ⟨gx, 5, none⟩ = some (.int .i64 f1) ∧ w'.cell? ⟨gy, 0, none⟩ = some (.bool (ng p1)) ∧ w'.cell? ⟨gy, 1, none⟩ = some (.slice yA1 (zl p1) yc1) ∧ w'.cell? ⟨gy, 2, none⟩ = some (.int .i64 q1) ∧ w'.cell? ⟨gy, 3, none⟩ = some (.bool (ng r1')) ∧ w'.cell? ⟨gy, 4, none⟩ = some (.slice yB1 (zl r1') yd1) ∧ w'.cell? ⟨gy, 5, none⟩ = some (.int .i64 s1)) (first | (with_reducible exact ⟨L.b0.c30, L.tl.b0.cT0, L.tl.b0.cT1, L.tl.b0.cT2, L.tl.b0.cT3, L.tl.b0.cT4, L.tl.b0.cT5, L.tl.tl.b0.cT0, L.tl.tl.b0.cT1, L.tl.tl.b0.cT2, L.tl.tl.b0.cT3, L.tl.tl.b0.cT4, L.tl.tl.b0.cT5⟩) | exact ⟨L.b0.c30, L.tl.b0.cT0, L.tl.b0.cT1, L.tl.b0.cT2, L.tl.b0.cT3, L.tl.b0.cT4, L.tl.b0.cT5, L.tl.tl.b0.cT0, L.tl.tl.b0.cT1, L.tl.tl.b0.cT2, L.tl.tl.b0.cT3, L.tl.tl.b0.cT4, L.tl.tl.b0.cT5⟩) (first | (go_at_call 12; (with_reducible refine (TG1.out _ _ ?_ ).mono ?_); (· (refine isI_n (L.getN ?_) (L.getN ?_) <;> (repeat (first | (with_reducible exact List.mem_cons_self) | apply List.mem_cons_of_mem)))); rintro e wh ⟨rfl, be⟩; replace L := L.step be; clear be) | (go_at_call 13; (with_reducible refine (TC1.out _ _ _ ?_ ?_ ).mono ?_); (· (refine isI_n (L.getN ?_) (L.getN ?_) <;> (repeat (first | (with_reducible exact List.mem_cons_self) | apply List.mem_cons_of_mem)))); (· (refine isI_n (L.getN ?_) (L.getN ?_) <;> (repeat (first | (with_reducible exact List.mem_cons_self) | apply List.mem_cons_of_mem)))); rintro e wh ⟨rfl, be⟩; replace L := L.step be; clear be))
        clear u' t0' y0' t1' y1' t2' y2' t3' y3' t4' y4' t5' y5'
        go_wp2_with fail
        go_roundw
        case rel => exact ⟨1, by go_num, by omega, L⟩
        case measure => simp [intOf]
      · (try go_wp2_with fail)
        replace L := L.drew
        have u' := L.b0.c31
        have t0' := L.tl.b0.cT6
        have y0' := L.tl.tl.b0.cT6
        have t1' := L.tl.b0.cT7
        have y1' := L.tl.tl.b0.cT7
        have t2' := L.tl.b0.cT8
        have y2' := L.tl.tl.b0.cT8
        have t3' := L.tl.b0.cT9
        have y3' := L.tl.tl.b0.cT9
        have t4' := L.tl.b0.cT10
        have y4' := L.tl.tl.b0.cT10
        have t5' := L.tl.b0.cT11
        have y5' := L.tl.tl.b0.cT11
        go_region_held3 (fun w' => w'.cell? ⟨(gx + 1), 1, none⟩ = some (.int .i64 0) ∧ w'.cell? ⟨gx, 6, none⟩ = some (.bool (ng m2)) ∧ w'.cell? ⟨gx, 7, none⟩ = some (.slice xA2 (zl m2) xc2) ∧ w'.cell? ⟨gx, 8, none⟩ = some (.int .i64 e2) ∧ w'.cell? ⟨gx, 9, none⟩ = some (.bool (ng n2)) ∧ w'.cell? ⟨gx, 10, none⟩ = some (.slice xB2 (zl n2) xd2) ∧ w'.cell? ⟨gx, 11, none⟩ = some (.int .i64 f2) ∧ w'.cell? ⟨gy, 6, none⟩ = some (.bool (ng p2)) ∧ w'.cell? ⟨gy, 7, none⟩ = some (.slice yA2 (zl p2) yc2) ∧ w'.cell? ⟨gy, 8, none⟩ = some (.int .i64 q2) ∧ w'.cell? ⟨gy, 9, none⟩ = some (.bool (ng r2')) ∧ w'.cell? ⟨gy, 10, none⟩ = some (.slice yB2 (zl r2') yd2) ∧ w'.cell? ⟨gy, 11, none⟩ = some (.int .i64 s2)) (first | (with_reducible exact ⟨L.b0.c31, L.tl.b0.cT6, L.tl.b0.cT7, L.tl.b0.cT8, L.tl.b0.cT9, L.tl.b0.cT10, L.tl.b0.cT11, L.tl.tl.b0.cT6, L.tl.tl.b0.cT7, L.tl.tl.b0.cT8, L.tl.tl.b0.cT9, L.tl.tl.b0.cT10, L.tl.tl.b0.cT11⟩) | exact ⟨L.b0.c31, L.tl.b0.cT6, L.tl.b0.cT7, L.tl.b0.cT8, L.tl.b0.cT9, L.tl.b0.cT10, L.tl.b0.cT11, L.tl.tl.b0.cT6, L.tl.tl.b0.cT7, L.tl.tl.b0.cT8, L.tl.tl.b0.cT9, L.tl.tl.b0.cT10, L.tl.tl.b0.cT11⟩) (first | (go_at_call 12; (with_reducible refine (TG2.out _ _ ?_ ).mono ?_); (· (refine isI_n (L.getN ?_) (L.getN ?_) <;> (repeat (first | (with_reducible exact List.mem_cons_self) | apply List.mem_cons_of_mem)))); rintro e wh ⟨rfl, be⟩; replace L := L.step be; clear be) | (go_at_call 13; (with_reducible refine (TC2.out _ _ _ ?_ ?_ ).mono ?_); (· (refine isI_n (L.getN ?_) (L.getN ?_) <;> (repeat (first | (with_reducible exact List.mem_cons_self) | apply List.mem_cons_of_mem)))); (· (refine isI_n (L.getN ?_) (L.getN ?_) <;> (repeat (first | (with_reducible exact List.mem_cons_self) | apply List.mem_cons_of_mem)))); rintro e wh ⟨rfl, be⟩; replace L := L.step be; clear be))
        clear u' t0' y0' t1' y1' t2' y2' t3' y3' t4' y4' t5' y5'
        go_wp2_with fail
        go_roundw
        case rel => exact ⟨2, by go_num, by omega, L⟩
        case measure => simp [intOf]
      · (try go_wp2_with fail)
        replace L := L.drew
        have u' := L.b0.c32
        have t0' := L.tl.b0.cT12
        have y0' := L.tl.tl.b0.cT12
        have t1' := L.tl.b0.cT13
        have y1' := L.tl.tl.b0.cT13
        have t2' := L.tl.b0.cT14
        have y2' := L.tl.tl.b0.cT14
        have t3' := L.tl.b0.cT15
        have y3' := L.tl.tl.b0.cT15
        have t4' := L.tl.b0.cT16
        have y4' := L.tl.tl.b0.cT16
        have t5' := L.tl.b0.cT17
        have y5' := L.tl.tl.b0.cT17
        go_region_held3 (fun w' => w'.cell? ⟨(gx + 1), 2, none⟩ = some (.int .i64 0) ∧ w'.cell? ⟨gx, 12, none⟩ = some (.bool (ng m3)) ∧ w'.cell? ⟨gx, 13, none⟩ = some (.slice xA3 (zl m3) xc3) ∧ w'.cell? ⟨gx, 14, none⟩ = some (.int .i64 e3) ∧ w'.cell? ⟨gx, 15, none⟩ = some (.bool (ng n3)) ∧ w'.cell? ⟨gx, 16, none⟩ = some (.slice xB3 (zl n3) xd3) ∧ w'.cell? ⟨gx, 17, none⟩ = some (.int .i64 f3) ∧ w'.cell? ⟨gy, 12, none⟩ = some (.bool (ng p3)) ∧ w'.cell? ⟨gy, 13, none⟩ = some (.slice yA3 (zl p3) yc3) ∧ w'.cell? ⟨gy, 14, none⟩ = some (.int .i64 q3) ∧ w'.cell? ⟨gy, 15, none⟩ = some (.bool (ng r3')) ∧ w'.cell? ⟨gy, 16, none⟩ = some (.slice yB3 (zl r3') yd3) ∧ w'.cell? ⟨gy, 17, none⟩ = some (.int .i64 s3)) (first | (with_reducible exact ⟨L.b0.c32, L.tl.b0.cT12, L.tl.b0.cT13, L.tl.b0.cT14, L.tl.b0.cT15, L.tl.b0.cT16, L.tl.b0.cT17, L.tl.tl.b0.cT12, L.tl.tl.b0.cT13, L.tl.tl.b0.cT14, L.tl.tl.b0.cT15, L.tl.tl.b0.cT16, L.tl.tl.b0.cT17⟩) | exact ⟨L.b0.c32, L.tl.b0.cT12, L.tl.b0.cT13, L.tl.b0.cT14, L.tl.b0.cT15, L.tl.b0.cT16, L.tl.b0.cT17, L.tl.tl.b0.cT12, L.tl.tl.b0.cT13, L.tl.tl.b0.cT14, L.tl.tl.b0.cT15, L.tl.tl.b0.cT16, L.tl.tl.b0.cT17⟩) (first | (go_at_call 12; (with_reducible refine (TG3.out _ _ ?_ ).mono ?_); (· (refine isI_n (L.getN ?_) (L.getN ?_) <;> (repeat (first | (with_reducible exact List.mem_cons_self) | apply List.mem_cons_of_mem)))); rintro e wh ⟨rfl, be⟩; replace L := L.step be; clear be) | (go_at_call 13; (with_reducible refine (TC3.out _ _ _ ?_ ?_ ).mono ?_); (· (refine isI_n (L.getN ?_) (L.getN ?_) <;> (repeat (first | (with_reducible exact List.mem_cons_self) | apply List.mem_cons_of_mem)))); (· (refine isI_n (L.getN ?_) (L.getN ?_) <;> (repeat (first | (with_reducible exact List.mem_cons_self) | apply List.mem_cons_of_mem)))); rintro e wh ⟨rfl, be⟩; replace L := L.step be; clear be))
        clear u' t0' y0' t1' y1' t2' y2' t3' y3' t4' y4' t5' y5'
        go_wp2_with fail
        go_roundw
        case rel => exact ⟨3, by go_num, by omega, L⟩
        case measure => simp [intOf]
      · (try go_wp2_with fail)
        go_roundw
        case rel => exact ⟨t + 1, by go_num, by omega, L.subs (by simp) (by simp)⟩
        case measure => simp [intOf]; omega

end Go.Proofs.YtfnklkdbieikeaaGreatDoor
