/- The walk of ConstantRange: whatever the input, the law returns true and turns nothing that was there. -/
import Derived.Test.YtfnklkdbieikeaaGreatDoorAwake13
import Derived.Test.YtfnklkdbieikeaaGreatDoorCpF
import Derived.Test.YtfnklkdbieikeaaGreatDoorCpT
import Derived.Test.YtfnklkdbieikeaaGreatDoorMillAr
import Derived.Test.YtfnklkdbieikeaaGreatDoorCoS
import Derived.Deep.RegionHeld3
import Derived.Deep.DrawnRows
import Derived.Deep.Cut
import Derived.Deep.CutRange
namespace Go.Proofs.YtfnklkdbieikeaaGreatDoor
open Go.RowKit
set_option linter.unusedVariables false
set_option linter.unusedSimpArgs false
set_option maxRecDepth 100000
attribute [local go_sem ↓] Go.wp_at_zero Go.wp_at_succ

set_option maxHeartbeats 64000000 in
theorem walk_ConstantRange (a0 : Int) (w : World) (h0 : -9223372036854775808 ≤ a0 ∧ a0 ≤ 9223372036854775807) (hT : Tab w) :
    Calls Tryz.prog 5 #[.int .i64 a0] w (fun e w' => e = .returned (.bool true) ∧ Below w.heap.size w w') := by
  have HT := Lib.hid (fun W (hW : Below w.heap.size w W) => hT.mono hW)
  clear hT
  go_enter Tryz.func5, Tryz.ntmps5
  go_wp2_with fail
  have L := (Lq.mk0 w)
  (try go_wp2_with fail)
  refine (awake13_any _ (HT.out _ L.below)).mono ?_
  rintro e9 w1 ⟨rfl, be⟩
  replace L := L.step be
  clear be
  obtain ⟨h1, h2⟩ := h0
  by_cases q0 : 0 ≤ a0
  · by_cases q1 : a0 ≤ 4224
    · obtain ⟨r, hr⟩ : ∃ r : Int, a0 % 2 = r := ⟨_, rfl⟩
      have o1 := fun W => mod_any a0 2 W (by omega) (by omega) h1 h2
      rw [hr] at o1
      obtain ⟨u, hu9⟩ : ∃ u, r * 4225 - 1 + r = u := ⟨_, rfl⟩
      have ub : u = -1 ∨ u = 4225 := by omega
      have w1 : IntKind.i64.wrap (r * 4225) = r * 4225 := by rw [IntKind.wrap_i64]; omega
      have w2 : IntKind.i64.wrap (r * 4225 - 1) = r * 4225 - 1 := by rw [IntKind.wrap_i64]; omega
      have w3 : IntKind.i64.wrap (r * 4225 - 1 + r) = u := by rw [IntKind.wrap_i64]; omega
      have b0 : decide (0 ≤ a0) = true := decide_eq_true q0
      have b1 : decide (a0 ≤ 4224) = true := decide_eq_true q1
      have MO := Lib.hid o1
      have hk : okW u = false := by rcases ub with rfl | rfl <;> decide
      have hu : -9223372036854775808 ≤ u ∧ u ≤ 9223372036854775807 := by omega
      clear o1 hr hu9 ub
      (try go_wp2_with fail)
      refine (MO.out _).mono ?_
      rintro e9 w' ⟨rfl, rfl⟩
      (try go_wp2_with fail)
      refine (MO.out _).mono ?_
      rintro e9 w' ⟨rfl, rfl⟩
      have ot := fun W => three_no u W hk
      have z0 : zl 0 ≤ 6 := zl0
      have sm : ∀ v y W, IsI W v 0 0 0 0 → IsI W y 0 0 0 0 → Calls Tryz.prog 15 #[v, y] W (RetB W true) := fun v y W h k => by
        have s := r10same_any 0 0 0 0 0 0 0 0 v y W h k (by omega) (by omega) (by omega) (by omega) (by omega) (by omega) (by omega) (by omega)
        rwa [show ((decide ((0 : Int) = 0) && decide ((0 : Int) = 0)) && (decide ((0 : Int) = 0) && decide ((0 : Int) = 0))) = true from by simp] at s
      have tg : ∀ v W, IsI W v 0 0 0 0 → Below w.heap.size w W → Calls Tryz.prog 16 #[v, .int .i64 u] W (RetB W false) := fun v W h hW => by
        have s := ctight_any 0 0 0 0 u v W h (by omega) (by omega) (by omega) (by omega) dv_0 dv_0 hu.1 hu.2 (HT.out W hW)
        have e : tgtB 0 0 0 0 u = false := by
          unfold tgtB
          rw [← Bool.and_assoc, show (decide (0 ≤ u) && decide (u ≤ 4224)) = okW u from rfl, hk, Bool.false_and]
        rwa [e] at s
      have OT := Lib.hid ot
      have SM := Lib.hid sm
      have TG := Lib.hid tg
      clear ot sm tg hk hu z0
      (try go_wp2_with fail)
      refine (OT.out _).mono ?_
      rintro e w6 ⟨vv, rfl, it, be⟩
      obtain ⟨xA1, xc1, xB1, xd1, xA2, xc2, xB2, xd2, xA3, xc3, xB3, xd3, rfl, i1, i2, i3, i4, i5, i6⟩ := it.form
      replace L := ((((((L.step be).n i6).n i5).n i4).n i3).n i2).n i1
      clear be it i1 i2 i3 i4 i5 i6
      replace L := L.varT w6.heap.size rfl (ng 0) xA1 (zl 0) xc1 0 (ng 0) xB1 (zl 0) xd1 0 (ng 0) xA2 (zl 0) xc2 0 (ng 0) xB2 (zl 0) xd2 0 (ng 0) xA3 (zl 0) xc3 0 (ng 0) xB3 (zl 0) xd3 0
      replace L := L.varE3 (w6.heap.size + 1) (by simp) 1 1 1
      have t0' := L.tl.b0.cT0
      have t1' := L.tl.b0.cT1
      have t2' := L.tl.b0.cT2
      have t3' := L.tl.b0.cT3
      have t4' := L.tl.b0.cT4
      have t5' := L.tl.b0.cT5
      have t6' := L.tl.b0.cT6
      have t7' := L.tl.b0.cT7
      have t8' := L.tl.b0.cT8
      have t9' := L.tl.b0.cT9
      have t10' := L.tl.b0.cT10
      have t11' := L.tl.b0.cT11
      have t12' := L.tl.b0.cT12
      have t13' := L.tl.b0.cT13
      have t14' := L.tl.b0.cT14
      have t15' := L.tl.b0.cT15
      have t16' := L.tl.b0.cT16
      have t17' := L.tl.b0.cT17
      have u0' := L.b0.c30
      have u1' := L.b0.c31
      have u2' := L.b0.c32
      go_wp2_with (refine wp_storeNew2 _ rfl 32 34 _ _ rfl #[.bool false, .slice none 0 0, .int .i64 0, .bool false, .slice none 0 0, .int .i64 0, .bool false, .slice none 0 0, .int .i64 0, .bool false, .slice none 0 0, .int .i64 0, .bool false, .slice none 0 0, .int .i64 0, .bool false, .slice none 0 0, .int .i64 0] #[.bool (ng 0), .slice xA1 (zl 0) xc1, .int .i64 0, .bool (ng 0), .slice xB1 (zl 0) xd1, .int .i64 0, .bool (ng 0), .slice xA2 (zl 0) xc2, .int .i64 0, .bool (ng 0), .slice xB2 (zl 0) xd2, .int .i64 0, .bool (ng 0), .slice xA3 (zl 0) xc3, .int .i64 0, .bool (ng 0), .slice xB3 (zl 0) xd3, .int .i64 0] _ rfl rfl (by kernel_rfl) rfl (by simp [Value.oneCell']) ?_)
      clear t0' t1' t2' t3' t4' t5' t6' t7' t8' t9' t10' t11' t12' t13' t14' t15' t16' t17' u0' u1' u2'
      obtain ⟨gx, hgx⟩ : ∃ g9, w6.heap.size = g9 := ⟨_, rfl⟩
      rw [hgx] at L  ⊢
      clear hgx
      (try go_wp2_with fail)
      go_loopw [26] (fun i wr => ∃ (t : Nat), i = .int .i64 (t : Int) ∧ t ≤ 3 ∧ Lq w wr [(.slice xA1 (zl 0) xc1, (0 : Int).natAbs), (.slice xB1 (zl 0) xd1, (0 : Int).natAbs), (.slice xA2 (zl 0) xc2, (0 : Int).natAbs), (.slice xB2 (zl 0) xd2, (0 : Int).natAbs), (.slice xA3 (zl 0) xc3, (0 : Int).natAbs), (.slice xB3 (zl 0) xd3, (0 : Int).natAbs)] [] [] [(gx + 1, 34, #[.int .i64 1, .int .i64 1, .int .i64 1]), (gx, 32, #[.bool (ng 0), .slice xA1 (zl 0) xc1, .int .i64 0, .bool (ng 0), .slice xB1 (zl 0) xd1, .int .i64 0, .bool (ng 0), .slice xA2 (zl 0) xc2, .int .i64 0, .bool (ng 0), .slice xB2 (zl 0) xd2, .int .i64 0, .bool (ng 0), .slice xA3 (zl 0) xc3, .int .i64 0, .bool (ng 0), .slice xB3 (zl 0) xd3, .int .i64 0])]) (fun i _ => 3 - (intOf i).toNat)
      case atStart => exact ⟨0, by go_num, by omega, L.subs (by simp) (by simp)⟩
      case round =>
        clear L
        obtain ⟨t, rfl, ht, L⟩ := hrel
        rcases (show t = 0 ∨ t = 1 ∨ t = 2 ∨ t = 3 by omega) with rfl | rfl | rfl | rfl
        · have u' := L.b0.c30
          have t0' := L.tl.b0.cT0
          have t1' := L.tl.b0.cT1
          have t2' := L.tl.b0.cT2
          have t3' := L.tl.b0.cT3
          have t4' := L.tl.b0.cT4
          have t5' := L.tl.b0.cT5
          (try go_wp2_with fail)
          refine (SM.out _ _ _ (isI_n (m := 0) (e := 0) (n := 0) (f := 0) (s := .slice xA1 (zl 0) xc1) (t := .slice xB1 (zl 0) xd1) (L.getN (by simp)) (L.getN (by simp))) (isI_zero _)).mono ?_
          rintro e w21 ⟨rfl, be⟩
          replace L := L.step be
          clear be
          (try go_wp2_with fail)
          go_roundw
          case rel => exact ⟨1, by go_num, by omega, L⟩
          case measure => simp [intOf]
        · have u' := L.b0.c31
          have t0' := L.tl.b0.cT6
          have t1' := L.tl.b0.cT7
          have t2' := L.tl.b0.cT8
          have t3' := L.tl.b0.cT9
          have t4' := L.tl.b0.cT10
          have t5' := L.tl.b0.cT11
          (try go_wp2_with fail)
          refine (SM.out _ _ _ (isI_n (m := 0) (e := 0) (n := 0) (f := 0) (s := .slice xA2 (zl 0) xc2) (t := .slice xB2 (zl 0) xd2) (L.getN (by simp)) (L.getN (by simp))) (isI_zero _)).mono ?_
          rintro e w21 ⟨rfl, be⟩
          replace L := L.step be
          clear be
          (try go_wp2_with fail)
          go_roundw
          case rel => exact ⟨2, by go_num, by omega, L⟩
          case measure => simp [intOf]
        · have u' := L.b0.c32
          have t0' := L.tl.b0.cT12
          have t1' := L.tl.b0.cT13
          have t2' := L.tl.b0.cT14
          have t3' := L.tl.b0.cT15
          have t4' := L.tl.b0.cT16
          have t5' := L.tl.b0.cT17
          (try go_wp2_with fail)
          refine (SM.out _ _ _ (isI_n (m := 0) (e := 0) (n := 0) (f := 0) (s := .slice xA3 (zl 0) xc3) (t := .slice xB3 (zl 0) xd3) (L.getN (by simp)) (L.getN (by simp))) (isI_zero _)).mono ?_
          rintro e w21 ⟨rfl, be⟩
          replace L := L.step be
          clear be
          (try go_wp2_with fail)
          go_roundw
          case rel => exact ⟨3, by go_num, by omega, L⟩
          case measure => simp [intOf]
        · (try go_wp2_with fail)
          refine (TG.out _ _ (isI_zero _) L.below).mono ?_
          rintro e w21 ⟨rfl, be⟩
          replace L := L.step be
          clear be
          (try go_wp2_with fail)
          (try go_ret)
          exact ⟨rfl, L.below⟩
    · have b0 : decide (0 ≤ a0) = true := decide_eq_true q0
      have b1 : decide (a0 ≤ 4224) = false := decide_eq_false q1
      have hk : okW a0 = false := by unfold okW; rw [b1, Bool.and_false]
      have hu : -9223372036854775808 ≤ a0 ∧ a0 ≤ 9223372036854775807 := ⟨h1, h2⟩
      have ot := fun W => three_no a0 W hk
      have z0 : zl 0 ≤ 6 := zl0
      have sm : ∀ v y W, IsI W v 0 0 0 0 → IsI W y 0 0 0 0 → Calls Tryz.prog 15 #[v, y] W (RetB W true) := fun v y W h k => by
        have s := r10same_any 0 0 0 0 0 0 0 0 v y W h k (by omega) (by omega) (by omega) (by omega) (by omega) (by omega) (by omega) (by omega)
        rwa [show ((decide ((0 : Int) = 0) && decide ((0 : Int) = 0)) && (decide ((0 : Int) = 0) && decide ((0 : Int) = 0))) = true from by simp] at s
      have tg : ∀ v W, IsI W v 0 0 0 0 → Below w.heap.size w W → Calls Tryz.prog 16 #[v, .int .i64 a0] W (RetB W false) := fun v W h hW => by
        have s := ctight_any 0 0 0 0 a0 v W h (by omega) (by omega) (by omega) (by omega) dv_0 dv_0 hu.1 hu.2 (HT.out W hW)
        have e : tgtB 0 0 0 0 a0 = false := by
          unfold tgtB
          rw [← Bool.and_assoc, show (decide (0 ≤ a0) && decide (a0 ≤ 4224)) = okW a0 from rfl, hk, Bool.false_and]
        rwa [e] at s
      have OT := Lib.hid ot
      have SM := Lib.hid sm
      have TG := Lib.hid tg
      clear ot sm tg hk hu z0
      (try go_wp2_with fail)
      refine (OT.out _).mono ?_
      rintro e w6 ⟨vv, rfl, it, be⟩
      obtain ⟨xA1, xc1, xB1, xd1, xA2, xc2, xB2, xd2, xA3, xc3, xB3, xd3, rfl, i1, i2, i3, i4, i5, i6⟩ := it.form
      replace L := ((((((L.step be).n i6).n i5).n i4).n i3).n i2).n i1
      clear be it i1 i2 i3 i4 i5 i6
      replace L := L.varT w6.heap.size rfl (ng 0) xA1 (zl 0) xc1 0 (ng 0) xB1 (zl 0) xd1 0 (ng 0) xA2 (zl 0) xc2 0 (ng 0) xB2 (zl 0) xd2 0 (ng 0) xA3 (zl 0) xc3 0 (ng 0) xB3 (zl 0) xd3 0
      replace L := L.varE3 (w6.heap.size + 1) (by simp) 1 1 1
      have t0' := L.tl.b0.cT0
      have t1' := L.tl.b0.cT1
      have t2' := L.tl.b0.cT2
      have t3' := L.tl.b0.cT3
      have t4' := L.tl.b0.cT4
      have t5' := L.tl.b0.cT5
      have t6' := L.tl.b0.cT6
      have t7' := L.tl.b0.cT7
      have t8' := L.tl.b0.cT8
      have t9' := L.tl.b0.cT9
      have t10' := L.tl.b0.cT10
      have t11' := L.tl.b0.cT11
      have t12' := L.tl.b0.cT12
      have t13' := L.tl.b0.cT13
      have t14' := L.tl.b0.cT14
      have t15' := L.tl.b0.cT15
      have t16' := L.tl.b0.cT16
      have t17' := L.tl.b0.cT17
      have u0' := L.b0.c30
      have u1' := L.b0.c31
      have u2' := L.b0.c32
      go_wp2_with (refine wp_storeNew2 _ rfl 32 34 _ _ rfl #[.bool false, .slice none 0 0, .int .i64 0, .bool false, .slice none 0 0, .int .i64 0, .bool false, .slice none 0 0, .int .i64 0, .bool false, .slice none 0 0, .int .i64 0, .bool false, .slice none 0 0, .int .i64 0, .bool false, .slice none 0 0, .int .i64 0] #[.bool (ng 0), .slice xA1 (zl 0) xc1, .int .i64 0, .bool (ng 0), .slice xB1 (zl 0) xd1, .int .i64 0, .bool (ng 0), .slice xA2 (zl 0) xc2, .int .i64 0, .bool (ng 0), .slice xB2 (zl 0) xd2, .int .i64 0, .bool (ng 0), .slice xA3 (zl 0) xc3, .int .i64 0, .bool (ng 0), .slice xB3 (zl 0) xd3, .int .i64 0] _ rfl rfl (by kernel_rfl) rfl (by simp [Value.oneCell']) ?_)
      clear t0' t1' t2' t3' t4' t5' t6' t7' t8' t9' t10' t11' t12' t13' t14' t15' t16' t17' u0' u1' u2'
      obtain ⟨gx, hgx⟩ : ∃ g9, w6.heap.size = g9 := ⟨_, rfl⟩
      rw [hgx] at L  ⊢
      clear hgx
      (try go_wp2_with fail)
      go_loopw [26] (fun i wr => ∃ (t : Nat), i = .int .i64 (t : Int) ∧ t ≤ 3 ∧ Lq w wr [(.slice xA1 (zl 0) xc1, (0 : Int).natAbs), (.slice xB1 (zl 0) xd1, (0 : Int).natAbs), (.slice xA2 (zl 0) xc2, (0 : Int).natAbs), (.slice xB2 (zl 0) xd2, (0 : Int).natAbs), (.slice xA3 (zl 0) xc3, (0 : Int).natAbs), (.slice xB3 (zl 0) xd3, (0 : Int).natAbs)] [] [] [(gx + 1, 34, #[.int .i64 1, .int .i64 1, .int .i64 1]), (gx, 32, #[.bool (ng 0), .slice xA1 (zl 0) xc1, .int .i64 0, .bool (ng 0), .slice xB1 (zl 0) xd1, .int .i64 0, .bool (ng 0), .slice xA2 (zl 0) xc2, .int .i64 0, .bool (ng 0), .slice xB2 (zl 0) xd2, .int .i64 0, .bool (ng 0), .slice xA3 (zl 0) xc3, .int .i64 0, .bool (ng 0), .slice xB3 (zl 0) xd3, .int .i64 0])]) (fun i _ => 3 - (intOf i).toNat)
      case atStart => exact ⟨0, by go_num, by omega, L.subs (by simp) (by simp)⟩
      case round =>
        clear L
        obtain ⟨t, rfl, ht, L⟩ := hrel
        rcases (show t = 0 ∨ t = 1 ∨ t = 2 ∨ t = 3 by omega) with rfl | rfl | rfl | rfl
        · have u' := L.b0.c30
          have t0' := L.tl.b0.cT0
          have t1' := L.tl.b0.cT1
          have t2' := L.tl.b0.cT2
          have t3' := L.tl.b0.cT3
          have t4' := L.tl.b0.cT4
          have t5' := L.tl.b0.cT5
          (try go_wp2_with fail)
          refine (SM.out _ _ _ (isI_n (m := 0) (e := 0) (n := 0) (f := 0) (s := .slice xA1 (zl 0) xc1) (t := .slice xB1 (zl 0) xd1) (L.getN (by simp)) (L.getN (by simp))) (isI_zero _)).mono ?_
          rintro e w21 ⟨rfl, be⟩
          replace L := L.step be
          clear be
          (try go_wp2_with fail)
          go_roundw
          case rel => exact ⟨1, by go_num, by omega, L⟩
          case measure => simp [intOf]
        · have u' := L.b0.c31
          have t0' := L.tl.b0.cT6
          have t1' := L.tl.b0.cT7
          have t2' := L.tl.b0.cT8
          have t3' := L.tl.b0.cT9
          have t4' := L.tl.b0.cT10
          have t5' := L.tl.b0.cT11
          (try go_wp2_with fail)
          refine (SM.out _ _ _ (isI_n (m := 0) (e := 0) (n := 0) (f := 0) (s := .slice xA2 (zl 0) xc2) (t := .slice xB2 (zl 0) xd2) (L.getN (by simp)) (L.getN (by simp))) (isI_zero _)).mono ?_
          rintro e w21 ⟨rfl, be⟩
          replace L := L.step be
          clear be
          (try go_wp2_with fail)
          go_roundw
          case rel => exact ⟨2, by go_num, by omega, L⟩
          case measure => simp [intOf]
        · have u' := L.b0.c32
          have t0' := L.tl.b0.cT12
          have t1' := L.tl.b0.cT13
          have t2' := L.tl.b0.cT14
          have t3' := L.tl.b0.cT15
          have t4' := L.tl.b0.cT16
          have t5' := L.tl.b0.cT17
          (try go_wp2_with fail)
          refine (SM.out _ _ _ (isI_n (m := 0) (e := 0) (n := 0) (f := 0) (s := .slice xA3 (zl 0) xc3) (t := .slice xB3 (zl 0) xd3) (L.getN (by simp)) (L.getN (by simp))) (isI_zero _)).mono ?_
          rintro e w21 ⟨rfl, be⟩
          replace L := L.step be
          clear be
          (try go_wp2_with fail)
          go_roundw
          case rel => exact ⟨3, by go_num, by omega, L⟩
          case measure => simp [intOf]
        · (try go_wp2_with fail)
          refine (TG.out _ _ (isI_zero _) L.below).mono ?_
          rintro e w21 ⟨rfl, be⟩
          replace L := L.step be
          clear be
          (try go_wp2_with fail)
          (try go_ret)
          exact ⟨rfl, L.below⟩
  · have b0 : decide (0 ≤ a0) = false := decide_eq_false q0
    have hk : okW a0 = false := by unfold okW; rw [b0, Bool.false_and]
    have hu : -9223372036854775808 ≤ a0 ∧ a0 ≤ 9223372036854775807 := ⟨h1, h2⟩
    have ot := fun W => three_no a0 W hk
    have z0 : zl 0 ≤ 6 := zl0
    have sm : ∀ v y W, IsI W v 0 0 0 0 → IsI W y 0 0 0 0 → Calls Tryz.prog 15 #[v, y] W (RetB W true) := fun v y W h k => by
      have s := r10same_any 0 0 0 0 0 0 0 0 v y W h k (by omega) (by omega) (by omega) (by omega) (by omega) (by omega) (by omega) (by omega)
      rwa [show ((decide ((0 : Int) = 0) && decide ((0 : Int) = 0)) && (decide ((0 : Int) = 0) && decide ((0 : Int) = 0))) = true from by simp] at s
    have tg : ∀ v W, IsI W v 0 0 0 0 → Below w.heap.size w W → Calls Tryz.prog 16 #[v, .int .i64 a0] W (RetB W false) := fun v W h hW => by
      have s := ctight_any 0 0 0 0 a0 v W h (by omega) (by omega) (by omega) (by omega) dv_0 dv_0 hu.1 hu.2 (HT.out W hW)
      have e : tgtB 0 0 0 0 a0 = false := by
        unfold tgtB
        rw [← Bool.and_assoc, show (decide (0 ≤ a0) && decide (a0 ≤ 4224)) = okW a0 from rfl, hk, Bool.false_and]
      rwa [e] at s
    have OT := Lib.hid ot
    have SM := Lib.hid sm
    have TG := Lib.hid tg
    clear ot sm tg hk hu z0
    (try go_wp2_with fail)
    refine (OT.out _).mono ?_
    rintro e w6 ⟨vv, rfl, it, be⟩
    obtain ⟨xA1, xc1, xB1, xd1, xA2, xc2, xB2, xd2, xA3, xc3, xB3, xd3, rfl, i1, i2, i3, i4, i5, i6⟩ := it.form
    replace L := ((((((L.step be).n i6).n i5).n i4).n i3).n i2).n i1
    clear be it i1 i2 i3 i4 i5 i6
    replace L := L.varT w6.heap.size rfl (ng 0) xA1 (zl 0) xc1 0 (ng 0) xB1 (zl 0) xd1 0 (ng 0) xA2 (zl 0) xc2 0 (ng 0) xB2 (zl 0) xd2 0 (ng 0) xA3 (zl 0) xc3 0 (ng 0) xB3 (zl 0) xd3 0
    replace L := L.varE3 (w6.heap.size + 1) (by simp) 1 1 1
    have t0' := L.tl.b0.cT0
    have t1' := L.tl.b0.cT1
    have t2' := L.tl.b0.cT2
    have t3' := L.tl.b0.cT3
    have t4' := L.tl.b0.cT4
    have t5' := L.tl.b0.cT5
    have t6' := L.tl.b0.cT6
    have t7' := L.tl.b0.cT7
    have t8' := L.tl.b0.cT8
    have t9' := L.tl.b0.cT9
    have t10' := L.tl.b0.cT10
    have t11' := L.tl.b0.cT11
    have t12' := L.tl.b0.cT12
    have t13' := L.tl.b0.cT13
    have t14' := L.tl.b0.cT14
    have t15' := L.tl.b0.cT15
    have t16' := L.tl.b0.cT16
    have t17' := L.tl.b0.cT17
    have u0' := L.b0.c30
    have u1' := L.b0.c31
    have u2' := L.b0.c32
    go_wp2_with (refine wp_storeNew2 _ rfl 32 34 _ _ rfl #[.bool false, .slice none 0 0, .int .i64 0, .bool false, .slice none 0 0, .int .i64 0, .bool false, .slice none 0 0, .int .i64 0, .bool false, .slice none 0 0, .int .i64 0, .bool false, .slice none 0 0, .int .i64 0, .bool false, .slice none 0 0, .int .i64 0] #[.bool (ng 0), .slice xA1 (zl 0) xc1, .int .i64 0, .bool (ng 0), .slice xB1 (zl 0) xd1, .int .i64 0, .bool (ng 0), .slice xA2 (zl 0) xc2, .int .i64 0, .bool (ng 0), .slice xB2 (zl 0) xd2, .int .i64 0, .bool (ng 0), .slice xA3 (zl 0) xc3, .int .i64 0, .bool (ng 0), .slice xB3 (zl 0) xd3, .int .i64 0] _ rfl rfl (by kernel_rfl) rfl (by simp [Value.oneCell']) ?_)
    clear t0' t1' t2' t3' t4' t5' t6' t7' t8' t9' t10' t11' t12' t13' t14' t15' t16' t17' u0' u1' u2'
    obtain ⟨gx, hgx⟩ : ∃ g9, w6.heap.size = g9 := ⟨_, rfl⟩
    rw [hgx] at L  ⊢
    clear hgx
    (try go_wp2_with fail)
    go_loopw [26] (fun i wr => ∃ (t : Nat), i = .int .i64 (t : Int) ∧ t ≤ 3 ∧ Lq w wr [(.slice xA1 (zl 0) xc1, (0 : Int).natAbs), (.slice xB1 (zl 0) xd1, (0 : Int).natAbs), (.slice xA2 (zl 0) xc2, (0 : Int).natAbs), (.slice xB2 (zl 0) xd2, (0 : Int).natAbs), (.slice xA3 (zl 0) xc3, (0 : Int).natAbs), (.slice xB3 (zl 0) xd3, (0 : Int).natAbs)] [] [] [(gx + 1, 34, #[.int .i64 1, .int .i64 1, .int .i64 1]), (gx, 32, #[.bool (ng 0), .slice xA1 (zl 0) xc1, .int .i64 0, .bool (ng 0), .slice xB1 (zl 0) xd1, .int .i64 0, .bool (ng 0), .slice xA2 (zl 0) xc2, .int .i64 0, .bool (ng 0), .slice xB2 (zl 0) xd2, .int .i64 0, .bool (ng 0), .slice xA3 (zl 0) xc3, .int .i64 0, .bool (ng 0), .slice xB3 (zl 0) xd3, .int .i64 0])]) (fun i _ => 3 - (intOf i).toNat)
    case atStart => exact ⟨0, by go_num, by omega, L.subs (by simp) (by simp)⟩
    case round =>
      clear L
      obtain ⟨t, rfl, ht, L⟩ := hrel
      rcases (show t = 0 ∨ t = 1 ∨ t = 2 ∨ t = 3 by omega) with rfl | rfl | rfl | rfl
      · have u' := L.b0.c30
        have t0' := L.tl.b0.cT0
        have t1' := L.tl.b0.cT1
        have t2' := L.tl.b0.cT2
        have t3' := L.tl.b0.cT3
        have t4' := L.tl.b0.cT4
        have t5' := L.tl.b0.cT5
        (try go_wp2_with fail)
        refine (SM.out _ _ _ (isI_n (m := 0) (e := 0) (n := 0) (f := 0) (s := .slice xA1 (zl 0) xc1) (t := .slice xB1 (zl 0) xd1) (L.getN (by simp)) (L.getN (by simp))) (isI_zero _)).mono ?_
        rintro e w21 ⟨rfl, be⟩
        replace L := L.step be
        clear be
        (try go_wp2_with fail)
        go_roundw
        case rel => exact ⟨1, by go_num, by omega, L⟩
        case measure => simp [intOf]
      · have u' := L.b0.c31
        have t0' := L.tl.b0.cT6
        have t1' := L.tl.b0.cT7
        have t2' := L.tl.b0.cT8
        have t3' := L.tl.b0.cT9
        have t4' := L.tl.b0.cT10
        have t5' := L.tl.b0.cT11
        (try go_wp2_with fail)
        refine (SM.out _ _ _ (isI_n (m := 0) (e := 0) (n := 0) (f := 0) (s := .slice xA2 (zl 0) xc2) (t := .slice xB2 (zl 0) xd2) (L.getN (by simp)) (L.getN (by simp))) (isI_zero _)).mono ?_
        rintro e w21 ⟨rfl, be⟩
        replace L := L.step be
        clear be
        (try go_wp2_with fail)
        go_roundw
        case rel => exact ⟨2, by go_num, by omega, L⟩
        case measure => simp [intOf]
      · have u' := L.b0.c32
        have t0' := L.tl.b0.cT12
        have t1' := L.tl.b0.cT13
        have t2' := L.tl.b0.cT14
        have t3' := L.tl.b0.cT15
        have t4' := L.tl.b0.cT16
        have t5' := L.tl.b0.cT17
        (try go_wp2_with fail)
        refine (SM.out _ _ _ (isI_n (m := 0) (e := 0) (n := 0) (f := 0) (s := .slice xA3 (zl 0) xc3) (t := .slice xB3 (zl 0) xd3) (L.getN (by simp)) (L.getN (by simp))) (isI_zero _)).mono ?_
        rintro e w21 ⟨rfl, be⟩
        replace L := L.step be
        clear be
        (try go_wp2_with fail)
        go_roundw
        case rel => exact ⟨3, by go_num, by omega, L⟩
        case measure => simp [intOf]
      · (try go_wp2_with fail)
        refine (TG.out _ _ (isI_zero _) L.below).mono ?_
        rintro e w21 ⟨rfl, be⟩
        replace L := L.step be
        clear be
        (try go_wp2_with fail)
        (try go_ret)
        exact ⟨rfl, L.below⟩

end Go.Proofs.YtfnklkdbieikeaaGreatDoor
