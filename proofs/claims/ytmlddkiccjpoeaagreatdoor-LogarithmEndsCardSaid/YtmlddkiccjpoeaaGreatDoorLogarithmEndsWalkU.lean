/- The walk of LogarithmEnds: whatever the input, the law returns true and turns nothing that was there. -/
import Derived.Test.YtmlddkiccjpoeaaGreatDoorJU4
import Derived.Test.YtmlddkiccjpoeaaGreatDoorBaseWU
import Derived.Deep.RegionHeld3
import Derived.Deep.DrawnRows
import Derived.Deep.Cut
import Derived.Deep.CutRange
namespace Go.Proofs.YtmlddkiccjpoeaaGreatDoor
open Go.RowKit
set_option linter.unusedVariables false
set_option linter.unusedSimpArgs false
set_option maxRecDepth 100000
attribute [local go_sem ↓] Go.wp_at_zero Go.wp_at_succ

set_option maxHeartbeats 64000000 in
theorem walk_LogarithmEnds (b0 : Bool) (a0 : Option Addr) (len0 cap0 : Nat) (z0 : List Nat) (f0 : Int) (bb0 : Bool) (aa0 : Option Addr) (ll0 cc0 : Nat) (zz0 : List Nat) (ff0 : Int) (a1 : Int) (w : World) (h0 : Sl w a0 len0 cap0 z0 ∧ -9223372036854775808 ≤ f0 ∧ f0 ≤ 9223372036854775807) (k0 : Sl w aa0 ll0 cc0 zz0 ∧ -9223372036854775808 ≤ ff0 ∧ ff0 ≤ 9223372036854775807) (h1 : -9223372036854775808 ≤ a1 ∧ a1 ≤ 9223372036854775807) (hT : Tab w) :
    Calls Tryz.prog 5 #[.agg #[.bool b0, .slice a0 len0 cap0, .int .i64 f0, .bool bb0, .slice aa0 ll0 cc0, .int .i64 ff0], .int .i64 a1] w (fun e w' => e = .returned (.bool true) ∧ Below w.heap.size w w') := by
  have HT := Lib.hid (fun W (hW : Below w.heap.size w W) => hT.mono hW)
  clear hT
  go_enter Tryz.func5, Tryz.ntmps5
  go_wp2_with fail
  have L := ((Lq.mk0 w).varI (w.heap.size) (by simp) b0 a0 len0 cap0 f0 bb0 aa0 ll0 cc0 ff0)
  (try go_wp2_with fail)
  refine (awake15_any _ (HT.out _ L.below)).mono ?_
  rintro e9 w1 ⟨rfl, be⟩
  replace L := L.step be
  clear be
  have c00 := L.b0.c60
  have c01 := L.b0.c61
  have c02 := L.b0.c62
  have c03 := L.b0.c63
  have c04 := L.b0.c64
  have c05 := L.b0.c65
  (try go_wp2_with fail)
  refine (millI_any b0 bb0 z0 zz0 2 60 a0 aa0 len0 cap0 ll0 cc0 f0 ff0 _ (h0.1.mono L.below) (k0.1.mono L.below) (by omega) (by omega) h0.2.1 h0.2.2 k0.2.1 k0.2.2).mono ?_
  rintro e9 w2 ⟨vx, ok, m, e, n, f, rfl, ii, zz, be1, bf1, hdv, hcm, be⟩
  clear c00 c01 c02 c03 c04 c05
  obtain ⟨A, c, B, d, rfl, ia, ib⟩ := ii.form
  replace L := ((L.step be).n ib).n ia
  clear be ii ia ib
  have hlt0 := L.b0.lt
  replace L := L.varI w2.heap.size rfl (ng m) A (zl m) c e (ng n) B (zl n) d f
  cases ok
  · go_wp2_with fail
    go_ret
    exact ⟨rfl, L.below⟩
  obtain ⟨dv1, dv2⟩ := hdv rfl
  obtain ⟨r2, hr2⟩ : ∃ r : Nat, a1 % 60 = (r : Int) := ⟨(a1 % 60).toNat, by omega⟩
  have o2 := fun W => mod_any a1 60 W (by omega) (by omega) h1.1 h1.2
  rw [hr2] at o2
  have br2 : r2 < 60 := by omega
  have HB := Lib.hid (And.intro h1 br2)
  have HX := Lib.hid (And.intro dv1 (And.intro dv2 (And.intro zz (And.intro be1 (And.intro bf1 hcm)))))
  have MO2 := Lib.hid o2
  clear o2 hr2 hdv dv1 dv2 zz be1 bf1 hcm
  go_wp2_with fail
  obtain ⟨gx, hgx9⟩ : ∃ g9, w2.heap.size = g9 := ⟨_, rfl⟩
  rw [hgx9] at L hlt0 ⊢
  clear hgx9
  obtain ⟨V0, hV0, L9⟩ := L.name
  rw [hV0]
  clear hV0 L
  have L := L9
  clear L9
  refine (MO2.out _).mono ?_
  rintro e9 w' ⟨rfl, rfl⟩
  have hgx := L.b0.lt
  replace L := L.var V0.heap.size rfl 3 #[.int .i64 a1, .int .i64 (r2 : Int)] (plainL2 _ _)
  go_wp2_with fail
  obtain ⟨gr, hgr⟩ : ∃ g9, V0.heap.size = g9 := ⟨_, rfl⟩
  rw [hgr] at L hgx ⊢
  clear hgr MO2
  go_loopw [26] (fun i wr => ∃ t : Nat, i = .int .i64 (t : Int) ∧ t ≤ 2 ∧ Lq w wr [(.slice A (zl m) c, m.natAbs), (.slice B (zl n) d, n.natAbs)] [] [] [(gr, 3, #[.int .i64 a1, .int .i64 (r2 : Int)]), (gx, 28, #[.bool (ng m), .slice A (zl m) c, .int .i64 e, .bool (ng n), .slice B (zl n) d, .int .i64 f])]) (fun i _ => 2 - (intOf i).toNat)
  case atStart => exact ⟨0, rfl, by omega, L.subx (by simp) (by simp)⟩
  case round =>
    clear L
    obtain ⟨t, rfl, ht, L⟩ := hrel
    rcases Nat.eq_or_lt_of_le ht with rfl | ht3
    · go_wp2_with fail
      go_ret
      exact ⟨rfl, L.below⟩
    · obtain ⟨q, hr, hq⟩ : ∃ q : Int, wr.cell? ⟨gr, t, none⟩ = some (.int .i64 q) ∧ (-9223372036854775808 ≤ q ∧ q ≤ 9223372036854775807) := by
        rcases (show t = 0 ∨ t = 1 by omega) with rfl | rfl
        · exact ⟨a1, L.b0.cell 0, HB.out.1⟩
        · exact ⟨(r2 : Int), L.b0.cell 1, by have := HB.out.2; omega⟩
      have hlt : (t : Int) < 2 := by omega
      have ht0 : (0 : Int) ≤ (t : Int) := by omega
      obtain ⟨dv1, dv2, ⟨z1, z2⟩, be1, bf1, hcm⟩ := HX.out
      have w9 : IntKind.i64.wrap ((t : Int) + 1) = (t : Int) + 1 := by rw [IntKind.wrap_i64]; omega
      have hgx2 := L.tl.b0.lt
      have hs1 := fun v W h => rsign8_any n f v W h (by omega)
      have hs2 := fun v W h => rsign8_any m e v W h (by omega)
      obtain ⟨sn, hsn⟩ : ∃ s, cmpI n 0 = s := ⟨_, rfl⟩
      obtain ⟨sm, hsm⟩ : ∃ s, cmpI m 0 = s := ⟨_, rfl⟩
      have sgn : (sn ≤ 0 ↔ n ≤ 0) ∧ (sm ≤ 0 ↔ m ≤ 0) := by
        rw [← hsn, ← hsm]
        unfold cmpI
        (repeat' split) <;> omega
      rw [hsn] at hs1
      rw [hsm] at hs2
      have S1 := Lib.hid hs1
      have S2 := Lib.hid hs2
      clear hs1 hs2 hsn hsm
      have hok : okL q = (decide (0 ≤ q) && decide (q ≤ 4096)) := rfl
      have hcase : (q < 0 ∨ 4096 < q) ∨ (0 ≤ q ∧ q ≤ 4096) := by omega
      rcases hcase with hbad | hgood
      · have ho : okL q = false := by
          rw [hok]
          rcases hbad with h | h
          · rw [decide_eq_false (show ¬ 0 ≤ q by omega), Bool.false_and]
          · rw [decide_eq_false (show ¬ q ≤ 4096 by omega), Bool.and_false]
        have g1 := fun v W h => xln_arg m e n f q v W h ho
        have G1 := Lib.hid g1
        clear g1 ho hok
        rcases hbad with hb | hb
        · have d1 : decide (q < 0) = true := decide_eq_true hb
          have cel10 := L.tl.b0.c60
          have cel11 := L.tl.b0.c61
          have cel12 := L.tl.b0.c62
          have cel13 := L.tl.b0.c63
          have cel14 := L.tl.b0.c64
          have cel15 := L.tl.b0.c65
          go_wp2_with fail
          refine (G1.out _ _ (isI_n (m := m) (e := e) (n := n) (f := f) (s := .slice A (zl m) c) (t := .slice B (zl n) d) (L.getN (by simp)) (L.getN (by simp)))).mono ?_
          rintro e9 w41 ⟨vv, rfl, ii, be⟩
          clear cel10 cel11 cel12 cel13 cel14 cel15
          obtain ⟨A2, c2, B2, d2, rfl, ia, ib⟩ := ii.form
          replace L := ((L.step be).n ib).n ia
          clear be ii ia ib
          have hl9 := L.b0.lt
          replace L := L.varI w41.heap.size rfl (ng 0) A2 (zl 0) c2 0 (ng 0) B2 (zl 0) d2 0
          have cel00 := L.b0.c60
          have cel01 := L.b0.c61
          have cel02 := L.b0.c62
          have cel03 := L.b0.c63
          have cel04 := L.b0.c64
          have cel05 := L.b0.c65
          have cel20 := L.tl.tl.b0.c60
          have cel21 := L.tl.tl.b0.c61
          have cel22 := L.tl.tl.b0.c62
          have cel23 := L.tl.tl.b0.c63
          have cel24 := L.tl.tl.b0.c64
          have cel25 := L.tl.tl.b0.c65
          go_wp2_with fail
          clear cel00 cel01 cel02 cel03 cel04 cel05 cel20 cel21 cel22 cel23 cel24 cel25
          go_roundw
          case rel => exact ⟨t + 1, by go_num, by omega, L.subx (by simp) (by simp)⟩
          case measure => simp [intOf]; omega
        · have d1 : decide (q < 0) = false := decide_eq_false (by omega)
          have d2 : decide (4096 < q) = true := decide_eq_true hb
          have cel10 := L.tl.b0.c60
          have cel11 := L.tl.b0.c61
          have cel12 := L.tl.b0.c62
          have cel13 := L.tl.b0.c63
          have cel14 := L.tl.b0.c64
          have cel15 := L.tl.b0.c65
          go_wp2_with fail
          refine (G1.out _ _ (isI_n (m := m) (e := e) (n := n) (f := f) (s := .slice A (zl m) c) (t := .slice B (zl n) d) (L.getN (by simp)) (L.getN (by simp)))).mono ?_
          rintro e9 w41 ⟨vv, rfl, ii, be⟩
          clear cel10 cel11 cel12 cel13 cel14 cel15
          obtain ⟨A2, c2, B2, d2, rfl, ia, ib⟩ := ii.form
          replace L := ((L.step be).n ib).n ia
          clear be ii ia ib
          have hl9 := L.b0.lt
          replace L := L.varI w41.heap.size rfl (ng 0) A2 (zl 0) c2 0 (ng 0) B2 (zl 0) d2 0
          have cel00 := L.b0.c60
          have cel01 := L.b0.c61
          have cel02 := L.b0.c62
          have cel03 := L.b0.c63
          have cel04 := L.b0.c64
          have cel05 := L.b0.c65
          have cel20 := L.tl.tl.b0.c60
          have cel21 := L.tl.tl.b0.c61
          have cel22 := L.tl.tl.b0.c62
          have cel23 := L.tl.tl.b0.c63
          have cel24 := L.tl.tl.b0.c64
          have cel25 := L.tl.tl.b0.c65
          go_wp2_with fail
          clear cel00 cel01 cel02 cel03 cel04 cel05 cel20 cel21 cel22 cel23 cel24 cel25
          go_roundw
          case rel => exact ⟨t + 1, by go_num, by omega, L.subx (by simp) (by simp)⟩
          case measure => simp [intOf]; omega
      · have ho : okL q = true := by rw [hok, decide_eq_true hgood.1, decide_eq_true hgood.2]; rfl
        have d1 : decide (q < 0) = false := decide_eq_false (by omega)
        have d2 : decide (4096 < q) = false := decide_eq_false (by omega)
        clear hok
        rcases Int.lt_or_le 0 n with hn | hn
        · rcases Int.lt_or_le 0 m with hm | hm
          · obtain ⟨k, rfl⟩ : ∃ k : Nat, q = (k : Int) := ⟨q.toNat, by omega⟩
            have g1 := fun v W h (hW : Below w.heap.size w W) => xln_yes m e n f k v W h (by omega) (by omega) (by omega) (by omega) dv1 dv2 hm (small15 (by omega) (by omega) (by omega) (by omega) hcm) (by omega) (HT.out W hW)
            have G1 := Lib.hid g1
            have d3 : decide (sn ≤ 0) = false := decide_eq_false (by omega)
            have d4 : decide (sm ≤ 0) = false := decide_eq_false (by omega)
            clear g1
            have cel10 := L.tl.b0.c60
            have cel11 := L.tl.b0.c61
            have cel12 := L.tl.b0.c62
            have cel13 := L.tl.b0.c63
            have cel14 := L.tl.b0.c64
            have cel15 := L.tl.b0.c65
            go_wp2_with fail
            refine (G1.out _ _ (isI_n (m := m) (e := e) (n := n) (f := f) (s := .slice A (zl m) c) (t := .slice B (zl n) d) (L.getN (by simp)) (L.getN (by simp))) L.below).mono ?_
            rintro e9 w41 ⟨a9, b9, _, vv, rfl, ii, be⟩
            clear cel10 cel11 cel12 cel13 cel14 cel15
            obtain ⟨Ma, hMa⟩ : ∃ z, mkM a9 (-(k : Int)) = z := ⟨_, rfl⟩
            obtain ⟨Ea, hEa⟩ : ∃ z, mkE a9 (-(k : Int)) = z := ⟨_, rfl⟩
            obtain ⟨Nb, hNb⟩ : ∃ z, mkM b9 (-(k : Int)) = z := ⟨_, rfl⟩
            obtain ⟨Fb, hFb⟩ : ∃ z, mkE b9 (-(k : Int)) = z := ⟨_, rfl⟩
            rw [hMa, hEa, hNb, hFb] at ii
            clear hMa hEa hNb hFb
            obtain ⟨A2, c2, B2, d2, rfl, ia, ib⟩ := ii.form
            replace L := ((L.step be).n ib).n ia
            clear be ii ia ib
            have hl9 := L.b0.lt
            replace L := L.varI w41.heap.size rfl (ng Ma) A2 (zl Ma) c2 Ea (ng Nb) B2 (zl Nb) d2 Fb
            have cel00 := L.b0.c60
            have cel01 := L.b0.c61
            have cel02 := L.b0.c62
            have cel03 := L.b0.c63
            have cel04 := L.b0.c64
            have cel05 := L.b0.c65
            have cel20 := L.tl.tl.b0.c60
            have cel21 := L.tl.tl.b0.c61
            have cel22 := L.tl.tl.b0.c62
            have cel23 := L.tl.tl.b0.c63
            have cel24 := L.tl.tl.b0.c64
            have cel25 := L.tl.tl.b0.c65
            go_wp2_with fail
            clear cel00 cel01 cel02 cel03 cel04 cel05 cel20 cel21 cel22 cel23 cel24 cel25
            obtain ⟨gy, hgy⟩ : ∃ g9, w41.heap.size = g9 := ⟨_, rfl⟩
            rw [hgy] at L hl9 ⊢
            clear hgy
            refine (S1.out _ _ (isD_n (m := n) (e := f) (s := .slice B (zl n) d) (L.getN (by simp)))).mono ?_
            rintro e w42 ⟨rfl, be⟩
            replace L := L.step be
            clear be
            have cel20 := L.tl.tl.b0.c60
            have cel21 := L.tl.tl.b0.c61
            have cel22 := L.tl.tl.b0.c62
            have cel23 := L.tl.tl.b0.c63
            have cel24 := L.tl.tl.b0.c64
            have cel25 := L.tl.tl.b0.c65
            (try go_wp2_with fail)
            clear cel20 cel21 cel22 cel23 cel24 cel25
            refine (S2.out _ _ (isD_n (m := m) (e := e) (s := .slice A (zl m) c) (L.getN (by simp)))).mono ?_
            rintro e w43 ⟨rfl, be⟩
            replace L := L.step be
            clear be
            have cel20 := L.tl.tl.b0.c60
            have cel21 := L.tl.tl.b0.c61
            have cel22 := L.tl.tl.b0.c62
            have cel23 := L.tl.tl.b0.c63
            have cel24 := L.tl.tl.b0.c64
            have cel25 := L.tl.tl.b0.c65
            (try go_wp2_with fail)
            clear cel20 cel21 cel22 cel23 cel24 cel25
            go_roundw
            case rel => exact ⟨t + 1, by go_num, by omega, L.subx (by simp) (by simp)⟩
            case measure => simp [intOf]; omega
          · have g1 := fun v W h => xln_unk m e n f q v W h ho (by omega) (by omega) hn hm
            have G1 := Lib.hid g1
            have d3 : decide (sn ≤ 0) = false := decide_eq_false (by omega)
            have d4 : decide (sm ≤ 0) = true := decide_eq_true (by omega)
            clear g1
            have cel10 := L.tl.b0.c60
            have cel11 := L.tl.b0.c61
            have cel12 := L.tl.b0.c62
            have cel13 := L.tl.b0.c63
            have cel14 := L.tl.b0.c64
            have cel15 := L.tl.b0.c65
            go_wp2_with fail
            refine (G1.out _ _ (isI_n (m := m) (e := e) (n := n) (f := f) (s := .slice A (zl m) c) (t := .slice B (zl n) d) (L.getN (by simp)) (L.getN (by simp)))).mono ?_
            rintro e9 w41 ⟨vv, rfl, ii, be⟩
            clear cel10 cel11 cel12 cel13 cel14 cel15
            obtain ⟨A2, c2, B2, d2, rfl, ia, ib⟩ := ii.form
            replace L := ((L.step be).n ib).n ia
            clear be ii ia ib
            have hl9 := L.b0.lt
            replace L := L.varI w41.heap.size rfl (ng 0) A2 (zl 0) c2 0 (ng 0) B2 (zl 0) d2 0
            have cel00 := L.b0.c60
            have cel01 := L.b0.c61
            have cel02 := L.b0.c62
            have cel03 := L.b0.c63
            have cel04 := L.b0.c64
            have cel05 := L.b0.c65
            have cel20 := L.tl.tl.b0.c60
            have cel21 := L.tl.tl.b0.c61
            have cel22 := L.tl.tl.b0.c62
            have cel23 := L.tl.tl.b0.c63
            have cel24 := L.tl.tl.b0.c64
            have cel25 := L.tl.tl.b0.c65
            go_wp2_with fail
            clear cel00 cel01 cel02 cel03 cel04 cel05 cel20 cel21 cel22 cel23 cel24 cel25
            obtain ⟨gy, hgy⟩ : ∃ g9, w41.heap.size = g9 := ⟨_, rfl⟩
            rw [hgy] at L hl9 ⊢
            clear hgy
            refine (S1.out _ _ (isD_n (m := n) (e := f) (s := .slice B (zl n) d) (L.getN (by simp)))).mono ?_
            rintro e w42 ⟨rfl, be⟩
            replace L := L.step be
            clear be
            have cel20 := L.tl.tl.b0.c60
            have cel21 := L.tl.tl.b0.c61
            have cel22 := L.tl.tl.b0.c62
            have cel23 := L.tl.tl.b0.c63
            have cel24 := L.tl.tl.b0.c64
            have cel25 := L.tl.tl.b0.c65
            (try go_wp2_with fail)
            clear cel20 cel21 cel22 cel23 cel24 cel25
            refine (S2.out _ _ (isD_n (m := m) (e := e) (s := .slice A (zl m) c) (L.getN (by simp)))).mono ?_
            rintro e w43 ⟨rfl, be⟩
            replace L := L.step be
            clear be
            have cel20 := L.tl.tl.b0.c60
            have cel21 := L.tl.tl.b0.c61
            have cel22 := L.tl.tl.b0.c62
            have cel23 := L.tl.tl.b0.c63
            have cel24 := L.tl.tl.b0.c64
            have cel25 := L.tl.tl.b0.c65
            (try go_wp2_with fail)
            clear cel20 cel21 cel22 cel23 cel24 cel25
            go_roundw
            case rel => exact ⟨t + 1, by go_num, by omega, L.subx (by simp) (by simp)⟩
            case measure => simp [intOf]; omega
        · have g1 := fun v W h => xln_dom m e n f q v W h ho (by omega) hn
          have G1 := Lib.hid g1
          have d3 : decide (sn ≤ 0) = true := decide_eq_true (by omega)
          clear g1
          have cel10 := L.tl.b0.c60
          have cel11 := L.tl.b0.c61
          have cel12 := L.tl.b0.c62
          have cel13 := L.tl.b0.c63
          have cel14 := L.tl.b0.c64
          have cel15 := L.tl.b0.c65
          go_wp2_with fail
          refine (G1.out _ _ (isI_n (m := m) (e := e) (n := n) (f := f) (s := .slice A (zl m) c) (t := .slice B (zl n) d) (L.getN (by simp)) (L.getN (by simp)))).mono ?_
          rintro e9 w41 ⟨vv, rfl, ii, be⟩
          clear cel10 cel11 cel12 cel13 cel14 cel15
          obtain ⟨A2, c2, B2, d2, rfl, ia, ib⟩ := ii.form
          replace L := ((L.step be).n ib).n ia
          clear be ii ia ib
          have hl9 := L.b0.lt
          replace L := L.varI w41.heap.size rfl (ng 0) A2 (zl 0) c2 0 (ng 0) B2 (zl 0) d2 0
          have cel00 := L.b0.c60
          have cel01 := L.b0.c61
          have cel02 := L.b0.c62
          have cel03 := L.b0.c63
          have cel04 := L.b0.c64
          have cel05 := L.b0.c65
          have cel20 := L.tl.tl.b0.c60
          have cel21 := L.tl.tl.b0.c61
          have cel22 := L.tl.tl.b0.c62
          have cel23 := L.tl.tl.b0.c63
          have cel24 := L.tl.tl.b0.c64
          have cel25 := L.tl.tl.b0.c65
          go_wp2_with fail
          clear cel00 cel01 cel02 cel03 cel04 cel05 cel20 cel21 cel22 cel23 cel24 cel25
          obtain ⟨gy, hgy⟩ : ∃ g9, w41.heap.size = g9 := ⟨_, rfl⟩
          rw [hgy] at L hl9 ⊢
          clear hgy
          refine (S1.out _ _ (isD_n (m := n) (e := f) (s := .slice B (zl n) d) (L.getN (by simp)))).mono ?_
          rintro e w42 ⟨rfl, be⟩
          replace L := L.step be
          clear be
          have cel20 := L.tl.tl.b0.c60
          have cel21 := L.tl.tl.b0.c61
          have cel22 := L.tl.tl.b0.c62
          have cel23 := L.tl.tl.b0.c63
          have cel24 := L.tl.tl.b0.c64
          have cel25 := L.tl.tl.b0.c65
          (try go_wp2_with fail)
          clear cel20 cel21 cel22 cel23 cel24 cel25
          go_roundw
          case rel => exact ⟨t + 1, by go_num, by omega, L.subx (by simp) (by simp)⟩
          case measure => simp [intOf]; omega

end Go.Proofs.YtmlddkiccjpoeaaGreatDoor
