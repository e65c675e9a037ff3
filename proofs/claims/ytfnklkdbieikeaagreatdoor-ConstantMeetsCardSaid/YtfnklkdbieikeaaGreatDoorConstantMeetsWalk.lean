/- The walk of ConstantMeets: whatever the input, the law returns true and turns nothing that was there. -/
import Derived.Test.YtfnklkdbieikeaaGreatDoorAwake13
import Derived.Test.YtfnklkdbieikeaaGreatDoorCpF
import Derived.Test.YtfnklkdbieikeaaGreatDoorCoS
import Derived.Test.YtfnklkdbieikeaaGreatDoorMillAr
import Derived.Test.YtfnklkdbieikeaaGreatDoorBaseW
import Derived.Deep.RegionHeld3
import Derived.Deep.DrawnRows
import Derived.Deep.Cut
import Derived.Deep.CutRange
namespace Go.Proofs.YtfnklkdbieikeaaGreatDoor
open Go.RowKit
set_option linter.unusedVariables false
set_option linter.unusedSimpArgs false
set_option maxRecDepth 100000
attribute [local go_sem ↓] Go.wp_at_zero Go.wp_at_succ

set_option maxHeartbeats 64000000 in
theorem walk_ConstantMeets (a0 : Int) (a1 : Int) (w : World) (h0 : -9223372036854775808 ≤ a0 ∧ a0 ≤ 9223372036854775807) (h1 : -9223372036854775808 ≤ a1 ∧ a1 ≤ 9223372036854775807) (hT : Tab w) :
    Calls Tryz.prog 4 #[.int .i64 a0, .int .i64 a1] w (fun e w' => e = .returned (.bool true) ∧ Below w.heap.size w w') := by
  have HT := Lib.hid (fun W (hW : Below w.heap.size w W) => hT.mono hW)
  clear hT
  go_enter Tryz.func4, Tryz.ntmps4
  go_wp2_with fail
  have L := (Lq.mk0 w)
  (try go_wp2_with fail)
  refine (awake13_any _ (HT.out _ L.below)).mono ?_
  rintro e9 w1 ⟨rfl, be⟩
  replace L := L.step be
  clear be
  obtain ⟨k1, hr1⟩ : ∃ r : Nat, a0 % 400 = (r : Int) := ⟨(a0 % 400).toNat, by omega⟩
  obtain ⟨k2, hr2⟩ : ∃ r : Nat, a1 % 400 = (r : Int) := ⟨(a1 % 400).toNat, by omega⟩
  have o1 := fun W => mod_any a0 400 W (by omega) (by omega) h0.1 h0.2
  have o2 := fun W => mod_any a1 400 W (by omega) (by omega) h1.1 h1.2
  rw [hr1] at o1
  rw [hr2] at o2
  have hb1 : k1 < 400 := by omega
  have hb2 : k2 < 400 := by omega
  have MO1 := Lib.hid o1
  have MO2 := Lib.hid o2
  clear o1 o2 hr1 hr2 h0 h1
  (try go_wp2_with fail)
  refine (MO1.out _).mono ?_
  rintro e9 w' ⟨rfl, rfl⟩
  (try go_wp2_with fail)
  refine (MO2.out _).mono ?_
  rintro e9 w' ⟨rfl, rfl⟩
  obtain ⟨ord1, ord2, ord3⟩ := c_order
  obtain ⟨T1, x1, C1⟩ := cst_pi (k := k1) hb1
  obtain ⟨⟨a11, a12, a13⟩, ⟨b11, b12, b13⟩, _, _, c11, c12, _⟩ := C1
  obtain ⟨T1', y1, D1⟩ := cst_pi (k := k2) hb2
  obtain ⟨⟨d11, d12, d13⟩, ⟨e11, e12, e13⟩, _, _, f11, f12, _⟩ := D1
  obtain ⟨T2, x2, C2⟩ := cst_ex (k := k1) hb1
  obtain ⟨⟨a21, a22, a23⟩, ⟨b21, b22, b23⟩, _, _, c21, c22, _⟩ := C2
  obtain ⟨T2', y2, D2⟩ := cst_ex (k := k2) hb2
  obtain ⟨⟨d21, d22, d23⟩, ⟨e21, e22, e23⟩, _, _, f21, f22, _⟩ := D2
  obtain ⟨T3, x3, C3⟩ := cst_ln (k := k1) hb1
  obtain ⟨⟨a31, a32, a33⟩, ⟨b31, b32, b33⟩, _, _, c31, c32, _⟩ := C3
  obtain ⟨T3', y3, D3⟩ := cst_ln (k := k2) hb2
  obtain ⟨⟨d31, d32, d33⟩, ⟨e31, e32, e33⟩, _, _, f31, f32, _⟩ := D3
  have ot : ∀ W, Below w.heap.size w W → Calls Tryz.prog 10 #[.int .i64 (k1 : Int)] W (RetTE W (aM T1 k1) (aE T1 k1) (bM T1 k1) (bE T1 k1) (aM T2 k1) (aE T2 k1) (bM T2 k1) (bE T2 k1) (aM T3 k1) (aE T3 k1) (bM T3 k1) (bE T3 k1) 0 0 0) := fun W hW => three_yes k1 T1 T2 T3 W (by omega) (HT.out W hW) x1 x2 x3
  have oy : ∀ W, Below w.heap.size w W → Calls Tryz.prog 10 #[.int .i64 (k2 : Int)] W (RetTE W (aM T1' k2) (aE T1' k2) (bM T1' k2) (bE T1' k2) (aM T2' k2) (aE T2' k2) (bM T2' k2) (bE T2' k2) (aM T3' k2) (aE T3' k2) (bM T3' k2) (bE T3' k2) 0 0 0) := fun W hW => three_yes k2 T1' T2' T3' W (by omega) (HT.out W hW) y1 y2 y3
  have sm1 : ∀ v u W, IsI W v (aM T1 k1) (aE T1 k1) (bM T1 k1) (bE T1 k1) → IsI W u (aM T1 k1) (aE T1 k1) (bM T1 k1) (bE T1 k1) → Calls Tryz.prog 15 #[v, u] W (RetB W true) := fun v u W h j => by
    have s := r10same_any (aM T1 k1) (aE T1 k1) (bM T1 k1) (bE T1 k1) (aM T1 k1) (aE T1 k1) (bM T1 k1) (bE T1 k1) v u W h j (by omega) (by omega) (by omega) (by omega) (by omega) (by omega) (by omega) (by omega) 
    rwa [decide_eq_true (rfl : (aE T1 k1) = (aE T1 k1)), decide_eq_true (rfl : (aM T1 k1) = (aM T1 k1)), decide_eq_true (rfl : (bE T1 k1) = (bE T1 k1)), decide_eq_true (rfl : (bM T1 k1) = (bM T1 k1)), show ((true && true) && (true && true)) = true from rfl] at s
  have tc1 : ∀ v u W, IsI W v (aM T1 k1) (aE T1 k1) (bM T1 k1) (bE T1 k1) → IsI W u (aM T1' k2) (aE T1' k2) (bM T1' k2) (bE T1' k2) → Calls Tryz.prog 14 #[v, u] W (RetI W 0) := fun v u W h j => by
    have s := r10cmp_any (aM T1 k1) (aE T1 k1) (bM T1 k1) (bE T1 k1) (aM T1' k2) (aE T1' k2) (bM T1' k2) (bE T1' k2) v u W h j (by omega) (by omega) (by omega) (by omega) (by omega) (by omega) (by omega) (by omega) 
    rwa [icm_meet (Rat.le_trans f11 c12) (Rat.le_trans c11 f12)] at s
  have sm2 : ∀ v u W, IsI W v (aM T2 k1) (aE T2 k1) (bM T2 k1) (bE T2 k1) → IsI W u (aM T2 k1) (aE T2 k1) (bM T2 k1) (bE T2 k1) → Calls Tryz.prog 15 #[v, u] W (RetB W true) := fun v u W h j => by
    have s := r10same_any (aM T2 k1) (aE T2 k1) (bM T2 k1) (bE T2 k1) (aM T2 k1) (aE T2 k1) (bM T2 k1) (bE T2 k1) v u W h j (by omega) (by omega) (by omega) (by omega) (by omega) (by omega) (by omega) (by omega) 
    rwa [decide_eq_true (rfl : (aE T2 k1) = (aE T2 k1)), decide_eq_true (rfl : (aM T2 k1) = (aM T2 k1)), decide_eq_true (rfl : (bE T2 k1) = (bE T2 k1)), decide_eq_true (rfl : (bM T2 k1) = (bM T2 k1)), show ((true && true) && (true && true)) = true from rfl] at s
  have tc2 : ∀ v u W, IsI W v (aM T2 k1) (aE T2 k1) (bM T2 k1) (bE T2 k1) → IsI W u (aM T2' k2) (aE T2' k2) (bM T2' k2) (bE T2' k2) → Calls Tryz.prog 14 #[v, u] W (RetI W 0) := fun v u W h j => by
    have s := r10cmp_any (aM T2 k1) (aE T2 k1) (bM T2 k1) (bE T2 k1) (aM T2' k2) (aE T2' k2) (bM T2' k2) (bE T2' k2) v u W h j (by omega) (by omega) (by omega) (by omega) (by omega) (by omega) (by omega) (by omega) 
    rwa [icm_meet (Rat.le_trans f21 c22) (Rat.le_trans c21 f22)] at s
  have sm3 : ∀ v u W, IsI W v (aM T3 k1) (aE T3 k1) (bM T3 k1) (bE T3 k1) → IsI W u (aM T3 k1) (aE T3 k1) (bM T3 k1) (bE T3 k1) → Calls Tryz.prog 15 #[v, u] W (RetB W true) := fun v u W h j => by
    have s := r10same_any (aM T3 k1) (aE T3 k1) (bM T3 k1) (bE T3 k1) (aM T3 k1) (aE T3 k1) (bM T3 k1) (bE T3 k1) v u W h j (by omega) (by omega) (by omega) (by omega) (by omega) (by omega) (by omega) (by omega) 
    rwa [decide_eq_true (rfl : (aE T3 k1) = (aE T3 k1)), decide_eq_true (rfl : (aM T3 k1) = (aM T3 k1)), decide_eq_true (rfl : (bE T3 k1) = (bE T3 k1)), decide_eq_true (rfl : (bM T3 k1) = (bM T3 k1)), show ((true && true) && (true && true)) = true from rfl] at s
  have tc3 : ∀ v u W, IsI W v (aM T3 k1) (aE T3 k1) (bM T3 k1) (bE T3 k1) → IsI W u (aM T3' k2) (aE T3' k2) (bM T3' k2) (bE T3' k2) → Calls Tryz.prog 14 #[v, u] W (RetI W 0) := fun v u W h j => by
    have s := r10cmp_any (aM T3 k1) (aE T3 k1) (bM T3 k1) (bE T3 k1) (aM T3' k2) (aE T3' k2) (bM T3' k2) (bE T3' k2) v u W h j (by omega) (by omega) (by omega) (by omega) (by omega) (by omega) (by omega) (by omega) 
    rwa [icm_meet (Rat.le_trans f31 c32) (Rat.le_trans c31 f32)] at s
  have u1 := fun v u W h j => r10cmp_any (aM T2 k1) (aE T2 k1) (bM T2 k1) (bE T2 k1) (aM T1' k2) (aE T1' k2) (bM T1' k2) (bE T1' k2) v u W h j (by omega) (by omega) (by omega) (by omega) (by omega) (by omega) (by omega) (by omega) 
  have lu1 := icm_le (m := (aM T2 k1)) (e := (aE T2 k1)) (n := (bM T2 k1)) (f := (bE T2 k1)) (m2 := (aM T1' k2)) (e2 := (aE T1' k2)) (n2 := (bM T1' k2)) (f2 := (bE T1' k2)) (Rat.le_trans c21 (Rat.le_trans ord2 f12))
  obtain ⟨zu1, hu1⟩ : ∃ z, icm (aM T2 k1) (aE T2 k1) (bM T2 k1) (bE T2 k1) (aM T1' k2) (aE T1' k2) (bM T1' k2) (bE T1' k2) = z := ⟨_, rfl⟩
  rw [hu1] at u1 lu1
  have du1 : decide (zu1 ≤ 0) = true := decide_eq_true lu1
  have u2 := fun v u W h j => r10cmp_any (aM T3 k1) (aE T3 k1) (bM T3 k1) (bE T3 k1) (aM T2' k2) (aE T2' k2) (bM T2' k2) (bE T2' k2) v u W h j (by omega) (by omega) (by omega) (by omega) (by omega) (by omega) (by omega) (by omega) 
  have lu2 := icm_le (m := (aM T3 k1)) (e := (aE T3 k1)) (n := (bM T3 k1)) (f := (bE T3 k1)) (m2 := (aM T2' k2)) (e2 := (aE T2' k2)) (n2 := (bM T2' k2)) (f2 := (bE T2' k2)) (Rat.le_trans c31 (Rat.le_trans ord1 f22))
  obtain ⟨zu2, hu2⟩ : ∃ z, icm (aM T3 k1) (aE T3 k1) (bM T3 k1) (bE T3 k1) (aM T2' k2) (aE T2' k2) (bM T2' k2) (bE T2' k2) = z := ⟨_, rfl⟩
  rw [hu2] at u2 lu2
  have du2 : decide (zu2 ≤ 0) = true := decide_eq_true lu2
  have u3 := fun v u W h j => r10cmp_any (aM T3' k2) (aE T3' k2) (bM T3' k2) (bE T3' k2) (aM T1 k1) (aE T1 k1) (bM T1 k1) (bE T1 k1) v u W h j (by omega) (by omega) (by omega) (by omega) (by omega) (by omega) (by omega) (by omega) 
  have lu3 := icm_le (m := (aM T3' k2)) (e := (aE T3' k2)) (n := (bM T3' k2)) (f := (bE T3' k2)) (m2 := (aM T1 k1)) (e2 := (aE T1 k1)) (n2 := (bM T1 k1)) (f2 := (bE T1 k1)) (Rat.le_trans f31 (Rat.le_trans ord3 c12))
  obtain ⟨zu3, hu3⟩ : ∃ z, icm (aM T3' k2) (aE T3' k2) (bM T3' k2) (bE T3' k2) (aM T1 k1) (aE T1 k1) (bM T1 k1) (bE T1 k1) = z := ⟨_, rfl⟩
  rw [hu3] at u3 lu3
  have du3 : decide (zu3 ≤ 0) = true := decide_eq_true lu3
  clear a11 a12 a13 b11 b12 b13 c11 c12 d11 d12 d13 e11 e12 e13 f11 f12 x1 y1 a21 a22 a23 b21 b22 b23 c21 c22 d21 d22 d23 e21 e22 e23 f21 f22 x2 y2 a31 a32 a33 b31 b32 b33 c31 c32 d31 d32 d33 e31 e32 e33 f31 f32 x3 y3 ord1 ord2 ord3 hu1 hu2 hu3
  generalize aM T1 k1 = m1 at *
  generalize aE T1 k1 = e1 at *
  generalize bM T1 k1 = n1 at *
  generalize bE T1 k1 = f1 at *
  generalize aM T1' k2 = p1 at *
  generalize aE T1' k2 = q1 at *
  generalize bM T1' k2 = r1' at *
  generalize bE T1' k2 = s1 at *
  generalize aM T2 k1 = m2 at *
  generalize aE T2 k1 = e2 at *
  generalize bM T2 k1 = n2 at *
  generalize bE T2 k1 = f2 at *
  generalize aM T2' k2 = p2 at *
  generalize aE T2' k2 = q2 at *
  generalize bM T2' k2 = r2' at *
  generalize bE T2' k2 = s2 at *
  generalize aM T3 k1 = m3 at *
  generalize aE T3 k1 = e3 at *
  generalize bM T3 k1 = n3 at *
  generalize bE T3 k1 = f3 at *
  generalize aM T3' k2 = p3 at *
  generalize aE T3' k2 = q3 at *
  generalize bM T3' k2 = r3' at *
  generalize bE T3' k2 = s3 at *
  have OT := Lib.hid ot
  have OY := Lib.hid oy
  have SM1 := Lib.hid sm1
  have TC1 := Lib.hid tc1
  have U1 := Lib.hid u1
  have SM2 := Lib.hid sm2
  have TC2 := Lib.hid tc2
  have U2 := Lib.hid u2
  have SM3 := Lib.hid sm3
  have TC3 := Lib.hid tc3
  have U3 := Lib.hid u3
  clear ot oy sm1 tc1 u1 sm2 tc2 u2 sm3 tc3 u3
  (try go_wp2_with fail)
  refine (OT.out _ L.below).mono ?_
  rintro e w11 ⟨vv, rfl, it, be⟩
  obtain ⟨xA1, xc1, xB1, xd1, xA2, xc2, xB2, xd2, xA3, xc3, xB3, xd3, rfl, i1, i2, i3, i4, i5, i6⟩ := it.form
  replace L := ((((((L.step be).n i6).n i5).n i4).n i3).n i2).n i1
  clear be it i1 i2 i3 i4 i5 i6
  replace L := L.varT w11.heap.size rfl (ng m1) xA1 (zl m1) xc1 e1 (ng n1) xB1 (zl n1) xd1 f1 (ng m2) xA2 (zl m2) xc2 e2 (ng n2) xB2 (zl n2) xd2 f2 (ng m3) xA3 (zl m3) xc3 e3 (ng n3) xB3 (zl n3) xd3 f3
  replace L := L.varE3 (w11.heap.size + 1) (by simp) 0 0 0
  have t0' := L.tl.b0.cT0
  have t1' := L.tl.b0.cT1
  have t2' := L.tl.b0.cT2
  have t3' := L.tl.b0.cT3
  have t4' := L.tl.b0.cT4
  have t5' := L.tl.b0.cT5
  have t6' := L.tl.b0.cT6
  have t7' := L.tl.b0.cT7
  have t8' := L.tl.b0.cT8
  have t9' := L.tl.b0.cT9
  have t10' := L.tl.b0.cT10
  have t11' := L.tl.b0.cT11
  have t12' := L.tl.b0.cT12
  have t13' := L.tl.b0.cT13
  have t14' := L.tl.b0.cT14
  have t15' := L.tl.b0.cT15
  have t16' := L.tl.b0.cT16
  have t17' := L.tl.b0.cT17
  have u0' := L.b0.c30
  have u1' := L.b0.c31
  have u2' := L.b0.c32
  go_wp2_with (refine wp_storeNew2 _ rfl 32 34 _ _ rfl #[.bool false, .slice none 0 0, .int .i64 0, .bool false, .slice none 0 0, .int .i64 0, .bool false, .slice none 0 0, .int .i64 0, .bool false, .slice none 0 0, .int .i64 0, .bool false, .slice none 0 0, .int .i64 0, .bool false, .slice none 0 0, .int .i64 0] #[.bool (ng m1), .slice xA1 (zl m1) xc1, .int .i64 e1, .bool (ng n1), .slice xB1 (zl n1) xd1, .int .i64 f1, .bool (ng m2), .slice xA2 (zl m2) xc2, .int .i64 e2, .bool (ng n2), .slice xB2 (zl n2) xd2, .int .i64 f2, .bool (ng m3), .slice xA3 (zl m3) xc3, .int .i64 e3, .bool (ng n3), .slice xB3 (zl n3) xd3, .int .i64 f3] _ rfl rfl (by kernel_rfl) rfl (by simp [Value.oneCell']) ?_)
  clear t0' t1' t2' t3' t4' t5' t6' t7' t8' t9' t10' t11' t12' t13' t14' t15' t16' t17' u0' u1' u2'
  obtain ⟨gx, hgx⟩ : ∃ g9, w11.heap.size = g9 := ⟨_, rfl⟩
  rw [hgx] at L  ⊢
  clear hgx
  (try go_wp2_with fail)
  refine (OY.out _ L.below).mono ?_
  rintro e w12 ⟨vv, rfl, it, be⟩
  obtain ⟨yA1, yc1, yB1, yd1, yA2, yc2, yB2, yd2, yA3, yc3, yB3, yd3, rfl, i1, i2, i3, i4, i5, i6⟩ := it.form
  replace L := ((((((L.step be).n i6).n i5).n i4).n i3).n i2).n i1
  clear be it i1 i2 i3 i4 i5 i6
  have hgy0 := L.b0.lt
  replace L := L.varT w12.heap.size rfl (ng p1) yA1 (zl p1) yc1 q1 (ng r1') yB1 (zl r1') yd1 s1 (ng p2) yA2 (zl p2) yc2 q2 (ng r2') yB2 (zl r2') yd2 s2 (ng p3) yA3 (zl p3) yc3 q3 (ng r3') yB3 (zl r3') yd3 s3
  replace L := L.varE3 (w12.heap.size + 1) (by simp) 0 0 0
  have t0' := L.tl.b0.cT0
  have t1' := L.tl.b0.cT1
  have t2' := L.tl.b0.cT2
  have t3' := L.tl.b0.cT3
  have t4' := L.tl.b0.cT4
  have t5' := L.tl.b0.cT5
  have t6' := L.tl.b0.cT6
  have t7' := L.tl.b0.cT7
  have t8' := L.tl.b0.cT8
  have t9' := L.tl.b0.cT9
  have t10' := L.tl.b0.cT10
  have t11' := L.tl.b0.cT11
  have t12' := L.tl.b0.cT12
  have t13' := L.tl.b0.cT13
  have t14' := L.tl.b0.cT14
  have t15' := L.tl.b0.cT15
  have t16' := L.tl.b0.cT16
  have t17' := L.tl.b0.cT17
  have u0' := L.b0.c30
  have u1' := L.b0.c31
  have u2' := L.b0.c32
  go_wp2_with (refine wp_storeNew2 _ rfl 32 34 _ _ rfl #[.bool false, .slice none 0 0, .int .i64 0, .bool false, .slice none 0 0, .int .i64 0, .bool false, .slice none 0 0, .int .i64 0, .bool false, .slice none 0 0, .int .i64 0, .bool false, .slice none 0 0, .int .i64 0, .bool false, .slice none 0 0, .int .i64 0] #[.bool (ng p1), .slice yA1 (zl p1) yc1, .int .i64 q1, .bool (ng r1'), .slice yB1 (zl r1') yd1, .int .i64 s1, .bool (ng p2), .slice yA2 (zl p2) yc2, .int .i64 q2, .bool (ng r2'), .slice yB2 (zl r2') yd2, .int .i64 s2, .bool (ng p3), .slice yA3 (zl p3) yc3, .int .i64 q3, .bool (ng r3'), .slice yB3 (zl r3') yd3, .int .i64 s3] _ rfl rfl (by kernel_rfl) rfl (by simp [Value.oneCell']) ?_)
  clear t0' t1' t2' t3' t4' t5' t6' t7' t8' t9' t10' t11' t12' t13' t14' t15' t16' t17' u0' u1' u2'
  obtain ⟨gy, hgy⟩ : ∃ g9, w12.heap.size = g9 := ⟨_, rfl⟩
  rw [hgy] at L hgy0 ⊢
  clear hgy
  (try go_wp2_with fail)
  refine (OT.out _ L.below).mono ?_
  rintro e w13 ⟨vv, rfl, it, be⟩
  obtain ⟨zA1, zc1, zB1, zd1, zA2, zc2, zB2, zd2, zA3, zc3, zB3, zd3, rfl, i1, i2, i3, i4, i5, i6⟩ := it.form
  replace L := ((((((L.step be).n i6).n i5).n i4).n i3).n i2).n i1
  clear be it i1 i2 i3 i4 i5 i6
  have hgz0 := L.b0.lt
  replace L := L.varT w13.heap.size rfl (ng m1) zA1 (zl m1) zc1 e1 (ng n1) zB1 (zl n1) zd1 f1 (ng m2) zA2 (zl m2) zc2 e2 (ng n2) zB2 (zl n2) zd2 f2 (ng m3) zA3 (zl m3) zc3 e3 (ng n3) zB3 (zl n3) zd3 f3
  replace L := L.varE3 (w13.heap.size + 1) (by simp) 0 0 0
  have t0' := L.tl.b0.cT0
  have t1' := L.tl.b0.cT1
  have t2' := L.tl.b0.cT2
  have t3' := L.tl.b0.cT3
  have t4' := L.tl.b0.cT4
  have t5' := L.tl.b0.cT5
  have t6' := L.tl.b0.cT6
  have t7' := L.tl.b0.cT7
  have t8' := L.tl.b0.cT8
  have t9' := L.tl.b0.cT9
  have t10' := L.tl.b0.cT10
  have t11' := L.tl.b0.cT11
  have t12' := L.tl.b0.cT12
  have t13' := L.tl.b0.cT13
  have t14' := L.tl.b0.cT14
  have t15' := L.tl.b0.cT15
  have t16' := L.tl.b0.cT16
  have t17' := L.tl.b0.cT17
  have u0' := L.b0.c30
  have u1' := L.b0.c31
  have u2' := L.b0.c32
  go_wp2_with (refine wp_storeNew2 _ rfl 32 34 _ _ rfl #[.bool false, .slice none 0 0, .int .i64 0, .bool false, .slice none 0 0, .int .i64 0, .bool false, .slice none 0 0, .int .i64 0, .bool false, .slice none 0 0, .int .i64 0, .bool false, .slice none 0 0, .int .i64 0, .bool false, .slice none 0 0, .int .i64 0] #[.bool (ng m1), .slice zA1 (zl m1) zc1, .int .i64 e1, .bool (ng n1), .slice zB1 (zl n1) zd1, .int .i64 f1, .bool (ng m2), .slice zA2 (zl m2) zc2, .int .i64 e2, .bool (ng n2), .slice zB2 (zl n2) zd2, .int .i64 f2, .bool (ng m3), .slice zA3 (zl m3) zc3, .int .i64 e3, .bool (ng n3), .slice zB3 (zl n3) zd3, .int .i64 f3] _ rfl rfl (by kernel_rfl) rfl (by simp [Value.oneCell']) ?_)
  clear t0' t1' t2' t3' t4' t5' t6' t7' t8' t9' t10' t11' t12' t13' t14' t15' t16' t17' u0' u1' u2'
  obtain ⟨gz, hgz⟩ : ∃ g9, w13.heap.size = g9 := ⟨_, rfl⟩
  rw [hgz] at L hgz0 ⊢
  clear hgz
  (try go_wp2_with fail)
  go_loopw [33] (fun i wr => ∃ (j : Nat), i = .int .i64 (j : Int) ∧ j ≤ 3 ∧ Lq w wr [(.slice xA1 (zl m1) xc1, (m1 : Int).natAbs), (.slice xB1 (zl n1) xd1, (n1 : Int).natAbs), (.slice xA2 (zl m2) xc2, (m2 : Int).natAbs), (.slice xB2 (zl n2) xd2, (n2 : Int).natAbs), (.slice xA3 (zl m3) xc3, (m3 : Int).natAbs), (.slice xB3 (zl n3) xd3, (n3 : Int).natAbs), (.slice yA1 (zl p1) yc1, (p1 : Int).natAbs), (.slice yB1 (zl r1') yd1, (r1' : Int).natAbs), (.slice yA2 (zl p2) yc2, (p2 : Int).natAbs), (.slice yB2 (zl r2') yd2, (r2' : Int).natAbs), (.slice yA3 (zl p3) yc3, (p3 : Int).natAbs), (.slice yB3 (zl r3') yd3, (r3' : Int).natAbs), (.slice zA1 (zl m1) zc1, (m1 : Int).natAbs), (.slice zB1 (zl n1) zd1, (n1 : Int).natAbs), (.slice zA2 (zl m2) zc2, (m2 : Int).natAbs), (.slice zB2 (zl n2) zd2, (n2 : Int).natAbs), (.slice zA3 (zl m3) zc3, (m3 : Int).natAbs), (.slice zB3 (zl n3) zd3, (n3 : Int).natAbs)] [] [] [(gx + 1, 34, #[.int .i64 0, .int .i64 0, .int .i64 0]), (gy + 1, 34, #[.int .i64 0, .int .i64 0, .int .i64 0]), (gz + 1, 34, #[.int .i64 0, .int .i64 0, .int .i64 0]), (gx, 32, #[.bool (ng m1), .slice xA1 (zl m1) xc1, .int .i64 e1, .bool (ng n1), .slice xB1 (zl n1) xd1, .int .i64 f1, .bool (ng m2), .slice xA2 (zl m2) xc2, .int .i64 e2, .bool (ng n2), .slice xB2 (zl n2) xd2, .int .i64 f2, .bool (ng m3), .slice xA3 (zl m3) xc3, .int .i64 e3, .bool (ng n3), .slice xB3 (zl n3) xd3, .int .i64 f3]), (gy, 32, #[.bool (ng p1), .slice yA1 (zl p1) yc1, .int .i64 q1, .bool (ng r1'), .slice yB1 (zl r1') yd1, .int .i64 s1, .bool (ng p2), .slice yA2 (zl p2) yc2, .int .i64 q2, .bool (ng r2'), .slice yB2 (zl r2') yd2, .int .i64 s2, .bool (ng p3), .slice yA3 (zl p3) yc3, .int .i64 q3, .bool (ng r3'), .slice yB3 (zl r3') yd3, .int .i64 s3]), (gz, 32, #[.bool (ng m1), .slice zA1 (zl m1) zc1, .int .i64 e1, .bool (ng n1), .slice zB1 (zl n1) zd1, .int .i64 f1, .bool (ng m2), .slice zA2 (zl m2) zc2, .int .i64 e2, .bool (ng n2), .slice zB2 (zl n2) zd2, .int .i64 f2, .bool (ng m3), .slice zA3 (zl m3) zc3, .int .i64 e3, .bool (ng n3), .slice zB3 (zl n3) zd3, .int .i64 f3])]) (fun i _ => 3 - (intOf i).toNat)
  case atStart => exact ⟨0, by go_num, by omega, L.subs (by simp) (by simp)⟩
  case round =>
    clear L
    obtain ⟨j, rfl, hj, L⟩ := hrel
    rcases (show j = 0 ∨ j = 1 ∨ j = 2 ∨ j = 3 by omega) with rfl | rfl | rfl | rfl
    · (try go_wp2_with fail)
      replace L := L.drew
      have u0' := L.b0.c30
      have u1' := L.tl.b0.c30
      have u2' := L.tl.tl.b0.c30
      have t0' := L.tl.tl.tl.b0.cT0
      have y0' := L.tl.tl.tl.tl.b0.cT0
      have z0' := L.tl.tl.tl.tl.tl.b0.cT0
      have t1' := L.tl.tl.tl.b0.cT1
      have y1' := L.tl.tl.tl.tl.b0.cT1
      have z1' := L.tl.tl.tl.tl.tl.b0.cT1
      have t2' := L.tl.tl.tl.b0.cT2
      have y2' := L.tl.tl.tl.tl.b0.cT2
      have z2' := L.tl.tl.tl.tl.tl.b0.cT2
      have t3' := L.tl.tl.tl.b0.cT3
      have y3' := L.tl.tl.tl.tl.b0.cT3
      have z3' := L.tl.tl.tl.tl.tl.b0.cT3
      have t4' := L.tl.tl.tl.b0.cT4
      have y4' := L.tl.tl.tl.tl.b0.cT4
      have z4' := L.tl.tl.tl.tl.tl.b0.cT4
      have t5' := L.tl.tl.tl.b0.cT5
      have y5' := L.tl.tl.tl.tl.b0.cT5
      have z5' := L.tl.tl.tl.tl.tl.b0.cT5
      go_region_held3 (fun w' => w'.cell? ⟨(gx + 1), 0, none⟩ = some (.int .i64 0) ∧ w'.cell? ⟨(gy + 1), 0, none⟩ = some (.int .i64 0) ∧ w'.cell? ⟨(gz + 1), 0, none⟩ = some (.int .i64 0) ∧ w'.cell? ⟨gx, 0, none⟩ = some (.bool (ng m1)) ∧ w'.cell? ⟨gx, 1, none⟩ = some (.slice xA1 (zl m1) xc1) ∧ w'.cell? ⟨gx, 2, none⟩ = some (.int .i64 e1) ∧ w'.cell? ⟨gx, 3, none⟩ = some (.bool (ng n1)) ∧ w'.cell? ⟨gx, 4, none⟩ = some (.slice xB1 (zl n1) xd1) ∧ w'.cell? ⟨gx, 5, none⟩ = some (.int .i64 f1) ∧ w'.cell? ⟨gy, 0, none⟩ = some (.bool (ng p1)) ∧ w'.cell? ⟨gy, 1, none⟩ = some (.slice yA1 (zl p1) yc1) ∧ w'.cell? ⟨gy, 2, none⟩ = some (.int .i64 q1) ∧ w'.cell? ⟨gy, 3, none⟩ = some (.bool (ng r1')) ∧ w'.cell? ⟨gy, 4, none⟩ = some (.slice yB1 (zl r1') yd1) ∧ w'.cell? ⟨gy, 5, none⟩ = some (.int .i64 s1) ∧ w'.cell? ⟨gz, 0, none⟩ = some (.bool (ng m1)) ∧ w'.cell? ⟨gz, 1, none⟩ = some (.slice zA1 (zl m1) zc1) ∧ w'.cell? ⟨gz, 2, none⟩ = some (.int .i64 e1) ∧ w'.cell? ⟨gz, 3, none⟩ = some (.bool (ng n1)) ∧ w'.cell? ⟨gz, 4, none⟩ = some (.slice zB1 (zl n1) zd1) ∧ w'.cell? ⟨gz, 5, none⟩ = some (.int .i64 f1)) (first | (with_reducible exact ⟨L.b0.c30, L.tl.b0.c30, L.tl.tl.b0.c30, L.tl.tl.tl.b0.cT0, L.tl.tl.tl.b0.cT1, L.tl.tl.tl.b0.cT2, L.tl.tl.tl.b0.cT3, L.tl.tl.tl.b0.cT4, L.tl.tl.tl.b0.cT5, L.tl.tl.tl.tl.b0.cT0, L.tl.tl.tl.tl.b0.cT1, L.tl.tl.tl.tl.b0.cT2, L.tl.tl.tl.tl.b0.cT3, L.tl.tl.tl.tl.b0.cT4, L.tl.tl.tl.tl.b0.cT5, L.tl.tl.tl.tl.tl.b0.cT0, L.tl.tl.tl.tl.tl.b0.cT1, L.tl.tl.tl.tl.tl.b0.cT2, L.tl.tl.tl.tl.tl.b0.cT3, L.tl.tl.tl.tl.tl.b0.cT4, L.tl.tl.tl.tl.tl.b0.cT5⟩) | exact ⟨L.b0.c30, L.tl.b0.c30, L.tl.tl.b0.c30, L.tl.tl.tl.b0.cT0, L.tl.tl.tl.b0.cT1, L.tl.tl.tl.b0.cT2, L.tl.tl.tl.b0.cT3, L.tl.tl.tl.b0.cT4, L.tl.tl.tl.b0.cT5, L.tl.tl.tl.tl.b0.cT0, L.tl.tl.tl.tl.b0.cT1, L.tl.tl.tl.tl.b0.cT2, L.tl.tl.tl.tl.b0.cT3, L.tl.tl.tl.tl.b0.cT4, L.tl.tl.tl.tl.b0.cT5, L.tl.tl.tl.tl.tl.b0.cT0, L.tl.tl.tl.tl.tl.b0.cT1, L.tl.tl.tl.tl.tl.b0.cT2, L.tl.tl.tl.tl.tl.b0.cT3, L.tl.tl.tl.tl.tl.b0.cT4, L.tl.tl.tl.tl.tl.b0.cT5⟩) (first | (go_at_call 14; (with_reducible refine (TC1.out _ _ _ ?_ ?_ ).mono ?_); (· (refine isI_n (L.getN ?_) (L.getN ?_) <;> (repeat (first | (with_reducible exact List.mem_cons_self) | apply List.mem_cons_of_mem)))); (· (refine isI_n (L.getN ?_) (L.getN ?_) <;> (repeat (first | (with_reducible exact List.mem_cons_self) | apply List.mem_cons_of_mem)))); rintro e wh ⟨rfl, be⟩; replace L := L.step be; clear be) | (go_at_call 15; (with_reducible refine (SM1.out _ _ _ ?_ ?_ ).mono ?_); (· (refine isI_n (L.getN ?_) (L.getN ?_) <;> (repeat (first | (with_reducible exact List.mem_cons_self) | apply List.mem_cons_of_mem)))); (· (refine isI_n (L.getN ?_) (L.getN ?_) <;> (repeat (first | (with_reducible exact List.mem_cons_self) | apply List.mem_cons_of_mem)))); rintro e wh ⟨rfl, be⟩; replace L := L.step be; clear be))
      clear u0' u1' u2' t0' y0' z0' t1' y1' z1' t2' y2' z2' t3' y3' z3' t4' y4' z4' t5' y5' z5'
      go_wp2_with fail
      go_roundw
      case rel => exact ⟨1, by go_num, by omega, L⟩
      case measure => simp [intOf]
    · (try go_wp2_with fail)
      replace L := L.drew
      have u0' := L.b0.c31
      have u1' := L.tl.b0.c31
      have u2' := L.tl.tl.b0.c31
      have t0' := L.tl.tl.tl.b0.cT6
      have y0' := L.tl.tl.tl.tl.b0.cT6
      have z0' := L.tl.tl.tl.tl.tl.b0.cT6
      have t1' := L.tl.tl.tl.b0.cT7
      have y1' := L.tl.tl.tl.tl.b0.cT7
      have z1' := L.tl.tl.tl.tl.tl.b0.cT7
      have t2' := L.tl.tl.tl.b0.cT8
      have y2' := L.tl.tl.tl.tl.b0.cT8
      have z2' := L.tl.tl.tl.tl.tl.b0.cT8
      have t3' := L.tl.tl.tl.b0.cT9
      have y3' := L.tl.tl.tl.tl.b0.cT9
      have z3' := L.tl.tl.tl.tl.tl.b0.cT9
      have t4' := L.tl.tl.tl.b0.cT10
      have y4' := L.tl.tl.tl.tl.b0.cT10
      have z4' := L.tl.tl.tl.tl.tl.b0.cT10
      have t5' := L.tl.tl.tl.b0.cT11
      have y5' := L.tl.tl.tl.tl.b0.cT11
      have z5' := L.tl.tl.tl.tl.tl.b0.cT11
      go_region_held3 (fun w' => w'.cell? ⟨(gx + 1), 1, none⟩ = some (.int .i64 0) ∧ w'.cell? ⟨(gy + 1), 1, none⟩ = some (.int .i64 0) ∧ w'.cell? ⟨(gz + 1), 1, none⟩ = some (.int .i64 0) ∧ w'.cell? ⟨gx, 6, none⟩ = some (.bool (ng m2)) ∧ w'.cell? ⟨gx, 7, none⟩ = some (.slice xA2 (zl m2) xc2) ∧ w'.cell? ⟨gx, 8, none⟩ = some (.int .i64 e2) ∧ w'.cell? ⟨gx, 9, none⟩ = some (.bool (ng n2)) ∧ w'.cell? ⟨gx, 10, none⟩ = some (.slice xB2 (zl n2) xd2) ∧ w'.cell? ⟨gx, 11, none⟩ = some (.int .i64 f2) ∧ w'.cell? ⟨gy, 6, none⟩ = some (.bool (ng p2)) ∧ w'.cell? ⟨gy, 7, none⟩ = some (.slice yA2 (zl p2) yc2) ∧ w'.cell? ⟨gy, 8, none⟩ = some (.int .i64 q2) ∧ w'.cell? ⟨gy, 9, none⟩ = some (.bool (ng r2')) ∧ w'.cell? ⟨gy, 10, none⟩ = some (.slice yB2 (zl r2') yd2) ∧ w'.cell? ⟨gy, 11, none⟩ = some (.int .i64 s2) ∧ w'.cell? ⟨gz, 6, none⟩ = some (.bool (ng m2)) ∧ w'.cell? ⟨gz, 7, none⟩ = some (.slice zA2 (zl m2) zc2) ∧ w'.cell? ⟨gz, 8, none⟩ = some (.int .i64 e2) ∧ w'.cell? ⟨gz, 9, none⟩ = some (.bool (ng n2)) ∧ w'.cell? ⟨gz, 10, none⟩ = some (.slice zB2 (zl n2) zd2) ∧ w'.cell? ⟨gz, 11, none⟩ = some (.int .i64 f2)) (first | (with_reducible exact ⟨L.b0.c31, L.tl.b0.c31, L.tl.tl.b0.c31, L.tl.tl.tl.b0.cT6, L.tl.tl.tl.b0.cT7, L.tl.tl.tl.b0.cT8, L.tl.tl.tl.b0.cT9, L.tl.tl.tl.b0.cT10, L.tl.tl.tl.b0.cT11, L.tl.tl.tl.tl.b0.cT6, L.tl.tl.tl.tl.b0.cT7, L.tl.tl.tl.tl.b0.cT8, L.tl.tl.tl.tl.b0.cT9, L.tl.tl.tl.tl.b0.cT10, L.tl.tl.tl.tl.b0.cT11, L.tl.tl.tl.tl.tl.b0.cT6, L.tl.tl.tl.tl.tl.b0.cT7, L.tl.tl.tl.tl.tl.b0.cT8, L.tl.tl.tl.tl.tl.b0.cT9, L.tl.tl.tl.tl.tl.b0.cT10, L.tl.tl.tl.tl.tl.b0.cT11⟩) | exact ⟨L.b0.c31, L.tl.b0.c31, L.tl.tl.b0.c31, L.tl.tl.tl.b0.cT6, L.tl.tl.tl.b0.cT7, L.tl.tl.tl.b0.cT8, L.tl.tl.tl.b0.cT9, L.tl.tl.tl.b0.cT10, L.tl.tl.tl.b0.cT11, L.tl.tl.tl.tl.b0.cT6, L.tl.tl.tl.tl.b0.cT7, L.tl.tl.tl.tl.b0.cT8, L.tl.tl.tl.tl.b0.cT9, L.tl.tl.tl.tl.b0.cT10, L.tl.tl.tl.tl.b0.cT11, L.tl.tl.tl.tl.tl.b0.cT6, L.tl.tl.tl.tl.tl.b0.cT7, L.tl.tl.tl.tl.tl.b0.cT8, L.tl.tl.tl.tl.tl.b0.cT9, L.tl.tl.tl.tl.tl.b0.cT10, L.tl.tl.tl.tl.tl.b0.cT11⟩) (first | (go_at_call 14; (with_reducible refine (TC2.out _ _ _ ?_ ?_ ).mono ?_); (· (refine isI_n (L.getN ?_) (L.getN ?_) <;> (repeat (first | (with_reducible exact List.mem_cons_self) | apply List.mem_cons_of_mem)))); (· (refine isI_n (L.getN ?_) (L.getN ?_) <;> (repeat (first | (with_reducible exact List.mem_cons_self) | apply List.mem_cons_of_mem)))); rintro e wh ⟨rfl, be⟩; replace L := L.step be; clear be) | (go_at_call 15; (with_reducible refine (SM2.out _ _ _ ?_ ?_ ).mono ?_); (· (refine isI_n (L.getN ?_) (L.getN ?_) <;> (repeat (first | (with_reducible exact List.mem_cons_self) | apply List.mem_cons_of_mem)))); (· (refine isI_n (L.getN ?_) (L.getN ?_) <;> (repeat (first | (with_reducible exact List.mem_cons_self) | apply List.mem_cons_of_mem)))); rintro e wh ⟨rfl, be⟩; replace L := L.step be; clear be))
      clear u0' u1' u2' t0' y0' z0' t1' y1' z1' t2' y2' z2' t3' y3' z3' t4' y4' z4' t5' y5' z5'
      go_wp2_with fail
      go_roundw
      case rel => exact ⟨2, by go_num, by omega, L⟩
      case measure => simp [intOf]
    · (try go_wp2_with fail)
      replace L := L.drew
      have u0' := L.b0.c32
      have u1' := L.tl.b0.c32
      have u2' := L.tl.tl.b0.c32
      have t0' := L.tl.tl.tl.b0.cT12
      have y0' := L.tl.tl.tl.tl.b0.cT12
      have z0' := L.tl.tl.tl.tl.tl.b0.cT12
      have t1' := L.tl.tl.tl.b0.cT13
      have y1' := L.tl.tl.tl.tl.b0.cT13
      have z1' := L.tl.tl.tl.tl.tl.b0.cT13
      have t2' := L.tl.tl.tl.b0.cT14
      have y2' := L.tl.tl.tl.tl.b0.cT14
      have z2' := L.tl.tl.tl.tl.tl.b0.cT14
      have t3' := L.tl.tl.tl.b0.cT15
      have y3' := L.tl.tl.tl.tl.b0.cT15
      have z3' := L.tl.tl.tl.tl.tl.b0.cT15
      have t4' := L.tl.tl.tl.b0.cT16
      have y4' := L.tl.tl.tl.tl.b0.cT16
      have z4' := L.tl.tl.tl.tl.tl.b0.cT16
      have t5' := L.tl.tl.tl.b0.cT17
      have y5' := L.tl.tl.tl.tl.b0.cT17
      have z5' := L.tl.tl.tl.tl.tl.b0.cT17
      go_region_held3 (fun w' => w'.cell? ⟨(gx + 1), 2, none⟩ = some (.int .i64 0) ∧ w'.cell? ⟨(gy + 1), 2, none⟩ = some (.int .i64 0) ∧ w'.cell? ⟨(gz + 1), 2, none⟩ = some (.int .i64 0) ∧ w'.cell? ⟨gx, 12, none⟩ = some (.bool (ng m3)) ∧ w'.cell? ⟨gx, 13, none⟩ = some (.slice xA3 (zl m3) xc3) ∧ w'.cell? ⟨gx, 14, none⟩ = some (.int .i64 e3) ∧ w'.cell? ⟨gx, 15, none⟩ = some (.bool (ng n3)) ∧ w'.cell? ⟨gx, 16, none⟩ = some (.slice xB3 (zl n3) xd3) ∧ w'.cell? ⟨gx, 17, none⟩ = some (.int .i64 f3) ∧ w'.cell? ⟨gy, 12, none⟩ = some (.bool (ng p3)) ∧ w'.cell? ⟨gy, 13, none⟩ = some (.slice yA3 (zl p3) yc3) ∧ w'.cell? ⟨gy, 14, none⟩ = some (.int .i64 q3) ∧ w'.cell? ⟨gy, 15, none⟩ = some (.bool (ng r3')) ∧ w'.cell? ⟨gy, 16, none⟩ = some (.slice yB3 (zl r3') yd3) ∧ w'.cell? ⟨gy, 17, none⟩ = some (.int .i64 s3) ∧ w'.cell? ⟨gz, 12, none⟩ = some (.bool (ng m3)) ∧ w'.cell? ⟨gz, 13, none⟩ = some (.slice zA3 (zl m3) zc3) ∧ w'.cell? ⟨gz, 14, none⟩ = some (.int .i64 e3) ∧ w'.cell? ⟨gz, 15, none⟩ = some (.bool (ng n3)) ∧ w'.cell? ⟨gz, 16, none⟩ = some (.slice zB3 (zl n3) zd3) ∧ w'.cell? ⟨gz, 17, none⟩ = some (.int .i64 f3)) (first | (with_reducible exact ⟨L.b0.c32, L.tl.b0.c32, L.tl.tl.b0.c32, L.tl.tl.tl.b0.cT12, L.tl.tl.tl.b0.cT13, L.tl.tl.tl.b0.cT14, L.tl.tl.tl.b0.cT15, L.tl.tl.tl.b0.cT16, L.tl.tl.tl.b0.cT17, L.tl.tl.tl.tl.b0.cT12, L.tl.tl.tl.tl.b0.cT13, L.tl.tl.tl.tl.b0.cT14, L.tl.tl.tl.tl.b0.cT15, L.tl.tl.tl.tl.b0.cT16, L.tl.tl.tl.tl.b0.cT17, L.tl.tl.tl.tl.tl.b0.cT12, L.tl.tl.tl.tl.tl.b0.cT13, L.tl.tl.tl.tl.tl.b0.cT14, L.tl.tl.tl.tl.tl.b0.cT15, L.tl.tl.tl.tl.tl.b0.cT16, L.tl.tl.tl.tl.tl.b0.cT17⟩) | exact ⟨L.b0.c32, L.tl.b0.c32, L.tl.tl.b0.c32, L.tl.tl.tl.b0.cT12, L.tl.tl.tl.b0.cT13, L.tl.tl.tl.b0.cT14, L.tl.tl.tl.b0.cT15, L.tl.tl.tl.b0.cT16, L.tl.tl.tl.b0.cT17, L.tl.tl.tl.tl.b0.cT12, L.tl.tl.tl.tl.b0.cT13, L.tl.tl.tl.tl.b0.cT14, L.tl.tl.tl.tl.b0.cT15, L.tl.tl.tl.tl.b0.cT16, L.tl.tl.tl.tl.b0.cT17, L.tl.tl.tl.tl.tl.b0.cT12, L.tl.tl.tl.tl.tl.b0.cT13, L.tl.tl.tl.tl.tl.b0.cT14, L.tl.tl.tl.tl.tl.b0.cT15, L.tl.tl.tl.tl.tl.b0.cT16, L.tl.tl.tl.tl.tl.b0.cT17⟩) (first | (go_at_call 14; (with_reducible refine (TC3.out _ _ _ ?_ ?_ ).mono ?_); (· (refine isI_n (L.getN ?_) (L.getN ?_) <;> (repeat (first | (with_reducible exact List.mem_cons_self) | apply List.mem_cons_of_mem)))); (· (refine isI_n (L.getN ?_) (L.getN ?_) <;> (repeat (first | (with_reducible exact List.mem_cons_self) | apply List.mem_cons_of_mem)))); rintro e wh ⟨rfl, be⟩; replace L := L.step be; clear be) | (go_at_call 15; (with_reducible refine (SM3.out _ _ _ ?_ ?_ ).mono ?_); (· (refine isI_n (L.getN ?_) (L.getN ?_) <;> (repeat (first | (with_reducible exact List.mem_cons_self) | apply List.mem_cons_of_mem)))); (· (refine isI_n (L.getN ?_) (L.getN ?_) <;> (repeat (first | (with_reducible exact List.mem_cons_self) | apply List.mem_cons_of_mem)))); rintro e wh ⟨rfl, be⟩; replace L := L.step be; clear be))
      clear u0' u1' u2' t0' y0' z0' t1' y1' z1' t2' y2' z2' t3' y3' z3' t4' y4' z4' t5' y5' z5'
      go_wp2_with fail
      go_roundw
      case rel => exact ⟨3, by go_num, by omega, L⟩
      case measure => simp [intOf]
    · skip
      have t0' := L.tl.tl.tl.b0.cT6
      have t1' := L.tl.tl.tl.b0.cT7
      have t2' := L.tl.tl.tl.b0.cT8
      have t3' := L.tl.tl.tl.b0.cT9
      have t4' := L.tl.tl.tl.b0.cT10
      have t5' := L.tl.tl.tl.b0.cT11
      have y0' := L.tl.tl.tl.tl.b0.cT0
      have y1' := L.tl.tl.tl.tl.b0.cT1
      have y2' := L.tl.tl.tl.tl.b0.cT2
      have y3' := L.tl.tl.tl.tl.b0.cT3
      have y4' := L.tl.tl.tl.tl.b0.cT4
      have y5' := L.tl.tl.tl.tl.b0.cT5
      (try go_wp2_with fail)
      refine (U1.out _ _ _ (isI_n (m := m2) (e := e2) (n := n2) (f := f2) (s := .slice xA2 (zl m2) xc2) (t := .slice xB2 (zl n2) xd2) (L.getN (by simp)) (L.getN (by simp))) (isI_n (m := p1) (e := q1) (n := r1') (f := s1) (s := .slice yA1 (zl p1) yc1) (t := .slice yB1 (zl r1') yd1) (L.getN (by simp)) (L.getN (by simp)))).mono ?_
      rintro e w21 ⟨rfl, be⟩
      replace L := L.step be
      clear be
      clear t0' t1' t2' t3' t4' t5' y0' y1' y2' y3' y4' y5'
      have t0' := L.tl.tl.tl.b0.cT12
      have t1' := L.tl.tl.tl.b0.cT13
      have t2' := L.tl.tl.tl.b0.cT14
      have t3' := L.tl.tl.tl.b0.cT15
      have t4' := L.tl.tl.tl.b0.cT16
      have t5' := L.tl.tl.tl.b0.cT17
      have y0' := L.tl.tl.tl.tl.b0.cT6
      have y1' := L.tl.tl.tl.tl.b0.cT7
      have y2' := L.tl.tl.tl.tl.b0.cT8
      have y3' := L.tl.tl.tl.tl.b0.cT9
      have y4' := L.tl.tl.tl.tl.b0.cT10
      have y5' := L.tl.tl.tl.tl.b0.cT11
      (try go_wp2_with fail)
      refine (U2.out _ _ _ (isI_n (m := m3) (e := e3) (n := n3) (f := f3) (s := .slice xA3 (zl m3) xc3) (t := .slice xB3 (zl n3) xd3) (L.getN (by simp)) (L.getN (by simp))) (isI_n (m := p2) (e := q2) (n := r2') (f := s2) (s := .slice yA2 (zl p2) yc2) (t := .slice yB2 (zl r2') yd2) (L.getN (by simp)) (L.getN (by simp)))).mono ?_
      rintro e w22 ⟨rfl, be⟩
      replace L := L.step be
      clear be
      clear t0' t1' t2' t3' t4' t5' y0' y1' y2' y3' y4' y5'
      have t0' := L.tl.tl.tl.tl.b0.cT12
      have t1' := L.tl.tl.tl.tl.b0.cT13
      have t2' := L.tl.tl.tl.tl.b0.cT14
      have t3' := L.tl.tl.tl.tl.b0.cT15
      have t4' := L.tl.tl.tl.tl.b0.cT16
      have t5' := L.tl.tl.tl.tl.b0.cT17
      have y0' := L.tl.tl.tl.b0.cT0
      have y1' := L.tl.tl.tl.b0.cT1
      have y2' := L.tl.tl.tl.b0.cT2
      have y3' := L.tl.tl.tl.b0.cT3
      have y4' := L.tl.tl.tl.b0.cT4
      have y5' := L.tl.tl.tl.b0.cT5
      (try go_wp2_with fail)
      refine (U3.out _ _ _ (isI_n (m := p3) (e := q3) (n := r3') (f := s3) (s := .slice yA3 (zl p3) yc3) (t := .slice yB3 (zl r3') yd3) (L.getN (by simp)) (L.getN (by simp))) (isI_n (m := m1) (e := e1) (n := n1) (f := f1) (s := .slice xA1 (zl m1) xc1) (t := .slice xB1 (zl n1) xd1) (L.getN (by simp)) (L.getN (by simp)))).mono ?_
      rintro e w23 ⟨rfl, be⟩
      replace L := L.step be
      clear be
      clear t0' t1' t2' t3' t4' t5' y0' y1' y2' y3' y4' y5'
      (try go_wp2_with fail)
      (try go_ret)
      exact ⟨rfl, L.below⟩

end Go.Proofs.YtfnklkdbieikeaaGreatDoor
