/- The walk of IntervalOuts: whatever the input, the law returns true and turns nothing that was there. -/
import Derived.Test.YtgcmdlannbobgaaDoorAwake10
import Derived.Test.YtgcmdlannbobgaaDoorIvQ
import Derived.Test.YtgcmdlannbobgaaDoorIvMath3
import Derived.Test.YtgcmdlannbobgaaDoorMillIv
import Derived.Deep.RegionHeld3
import Derived.Deep.DrawnRows
namespace Go.Proofs.YtgcmdlannbobgaaDoor
open Go.RowKit
set_option linter.unusedVariables false
set_option linter.unusedSimpArgs false
set_option maxRecDepth 100000
attribute [local go_sem ↓] Go.wp_at_zero Go.wp_at_succ

theorem plainI3 (a b c : Int) : Plain #[.int .i64 a, .int .i64 b, .int .i64 c] := fun j x => by
  match j with
  | 0 => simp
  | 1 => simp
  | 2 => simp
  | j + 3 => simp
theorem row3_cell {w : World} {g : Nat} {a b c : Int} {t : TypeId} (h : Var w g t #[.int .i64 a, .int .i64 b, .int .i64 c]) (hN : ∀ N ∈ [a, b, c], -9223372036854775808 ≤ N ∧ N ≤ 9223372036854775807) (j : Nat) (hj : j < 3) : ∃ N : Int, w.cell? ⟨g, j, none⟩ = some (.int .i64 N) ∧ -9223372036854775808 ≤ N ∧ N ≤ 9223372036854775807 := by
  rcases (show j = 0 ∨ j = 1 ∨ j = 2 by omega) with rfl | rfl | rfl
  · exact ⟨a, h.cell 0, hN _ (by simp)⟩
  · exact ⟨b, h.cell 1, hN _ (by simp)⟩
  · exact ⟨c, h.cell 2, hN _ (by simp)⟩

set_option maxHeartbeats 16000000 in
theorem walk_IntervalOuts (b0 : Bool) (a0 : Option Addr) (len0 cap0 : Nat) (z0 : List Nat) (f0 : Int) (bb0 : Bool) (aa0 : Option Addr) (ll0 cc0 : Nat) (zz0 : List Nat) (ff0 : Int) (a1 : Int) (w : World) (h0 : Sl w a0 len0 cap0 z0 ∧ -9223372036854775808 ≤ f0 ∧ f0 ≤ 9223372036854775807) (k0 : Sl w aa0 ll0 cc0 zz0 ∧ -9223372036854775808 ≤ ff0 ∧ ff0 ≤ 9223372036854775807) (h1 : -9223372036854775808 ≤ a1 ∧ a1 ≤ 9223372036854775807) (hT : Tab w) :
    Calls Tryd.prog 4 #[.agg #[.bool b0, .slice a0 len0 cap0, .int .i64 f0, .bool bb0, .slice aa0 ll0 cc0, .int .i64 ff0], .int .i64 a1] w (fun e w' => e = .returned (.bool true) ∧ Below w.heap.size w w') := by
  obtain ⟨r1, hr1⟩ : ∃ r : Nat, a1 % 100 = (r : Int) := ⟨(a1 % 100).toNat, by omega⟩
  obtain ⟨r2, hr2⟩ : ∃ r : Nat, a1 % 3 = (r : Int) := ⟨(a1 % 3).toNat, by omega⟩
  have o1 := fun W => mod_any a1 100 W (by omega) (by omega) h1.1 h1.2
  have o2 := fun W => mod_any a1 3 W (by omega) (by omega) h1.1 h1.2
  rw [hr1] at o1
  rw [hr2] at o2
  have MO1 := Lib.hid o1
  have MO2 := Lib.hid o2
  have bb1 : r1 < 100 := by omega
  have bb2 : r2 < 3 := by omega
  have ww1 : IntKind.i64.wrap ((r1 : Int) - 30) = (r1 : Int) - 30 := by rw [IntKind.wrap_i64]; omega
  have ww2 : IntKind.i64.wrap (8191 + (r2 : Int)) = 8191 + (r2 : Int) := by rw [IntKind.wrap_i64]; omega
  clear o1 o2 hr1 hr2
  go_enter Tryd.func4, Tryd.ntmps4
  go_wp2_with fail
  have L := ((Lq.mk0 w).varI (w.heap.size) (by simp) b0 a0 len0 cap0 f0 bb0 aa0 ll0 cc0 ff0)
  (try go_wp2_with fail)
  refine (awake10_any _).mono ?_
  rintro e9 w1 ⟨rfl, be⟩
  replace L := L.step be
  clear be
  have c00 := L.b0.c60
  have c01 := L.b0.c61
  have c02 := L.b0.c62
  have c03 := L.b0.c63
  have c04 := L.b0.c64
  have c05 := L.b0.c65
  (try go_wp2_with fail)
  refine (millI_any b0 bb0 z0 zz0 5 60 a0 aa0 len0 cap0 ll0 cc0 f0 ff0 _ (h0.1.mono L.below) (k0.1.mono L.below) (by omega) (by omega) h0.2.1 h0.2.2 k0.2.1 k0.2.2).mono ?_
  rintro e9 w2 ⟨vx, ok, m, e, n, f, rfl, ii, ⟨lm, ln⟩, he, hf, hv, le1, be⟩
  clear c00 c01 c02 c03 c04 c05
  obtain ⟨A, c, B, d, rfl, ia, ib⟩ := ii.form
  replace L := ((L.step be).n ib).n ia
  clear be ii ia ib
  have hlt0 := L.b0.lt
  replace L := L.varI w2.heap.size rfl (ng m) A (zl m) c e (ng n) B (zl n) d f
  cases ok
  · go_wp2_with fail
    go_ret
    exact ⟨rfl, L.below⟩
  obtain ⟨v1, v2⟩ := hv (by first | trivial | rfl)
  clear hv
  go_wp2_with fail
  refine (MO1.out _).mono ?_
  rintro e9 w' ⟨rfl, rfl⟩
  go_wp2_with fail
  refine (MO2.out _).mono ?_
  rintro e9 w' ⟨rfl, rfl⟩
  replace L := L.var (w2.heap.size + 1) (by simp) 3 #[.int .i64 a1, .int .i64 ((r1 : Int) - 30), .int .i64 (8191 + (r2 : Int))] (plainI3 _ _ _)
  go_wp2_with fail
  obtain ⟨gs, hgs⟩ : ∃ gs, w2.heap.size + 1 = gs := ⟨_, rfl⟩
  rw [hgs] at L ⊢
  clear hgs
  obtain ⟨g, hg⟩ : ∃ g, w2.heap.size = g := ⟨_, rfl⟩
  rw [hg] at L ⊢
  clear hg hlt0
  obtain ⟨V, hV⟩ : ∃ V, ((w2.alloc (.cells #[.bool (ng m), .slice A (zl m) c, .int .i64 e, .bool (ng n), .slice B (zl n) d, .int .i64 f] 28)).alloc (.cells #[.int .i64 a1, .int .i64 ((r1 : Int) - 30), .int .i64 (8191 + (r2 : Int))] 3)) = V := ⟨_, rfl⟩
  rw [hV] at L ⊢
  clear hV
  have hNN : ∀ N ∈ [a1, (r1 : Int) - 30, 8191 + (r2 : Int)], -9223372036854775808 ≤ N ∧ N ≤ 9223372036854775807 := by
    intro N hN
    simp only [List.mem_cons, List.not_mem_nil, or_false] at hN
    rcases hN with rfl | rfl | rfl <;> omega
  have HCE := Lib.hid (fun (wr : World) (hW : Below V.heap.size V wr) (j : Nat) (hj : j < 3) => row3_cell (L.b0.mono hW) hNN j hj)
  have GX := Lib.hid (fun (wr : World) (hW : Below V.heap.size V wr) => (L.getN (v := .slice A (zl m) c) (x := m.natAbs) (by simp)).mono hW)
  have GY := Lib.hid (fun (wr : World) (hW : Below V.heap.size V wr) => (L.getN (v := .slice B (zl n) d) (x := n.natAbs) (by simp)).mono hW)
  have VX := Lib.hid (fun (wr : World) (hW : Below V.heap.size V wr) => L.tl.b0.mono hW)
  have hwV := L.below.size
  have hWW := Lib.hid (fun (wr : World) (hW : Below V.heap.size V wr) => L.below.trans (hW.mono hwV))
  clear hNN L bb1 bb2 ww1 ww2
  go_loopw [31] (fun i wr => ∃ t : Nat, i = .int .i64 (t : Int) ∧ t ≤ 3 ∧ Below V.heap.size V wr) (fun i _ => 3 - (intOf i).toNat)
  case atStart => exact ⟨0, rfl, by omega, Below.refl _ _⟩
  case round =>
    obtain ⟨t, rfl, ht, hbe⟩ := hrel
    have hbs := hbe.size
    have L : Lq wr wr [(.slice A (zl m) c, m.natAbs), (.slice B (zl n) d, n.natAbs)] [] [] [(g, 28, #[.bool (ng m), .slice A (zl m) c, .int .i64 e, .bool (ng n), .slice B (zl n) d, .int .i64 f])] := (((Lq.mk0 wr).n (GY.out wr hbe)).n (GX.out wr hbe)).b (VX.out wr hbe)
    have HW0 := Lib.hid (fun W (hW : Below wr.heap.size wr W) => (hWW.out wr hbe).trans (hW.mono (hWW.out wr hbe).size))
    rcases Nat.eq_or_lt_of_le ht with rfl | ht3
    · go_wp2_with fail
      go_ret
      exact ⟨rfl, HW0.out _ L.below⟩
    · obtain ⟨N, hN, hNa, hNb⟩ := HCE.out wr hbe t ht3
      have hlt : (t : Int) < 3 := by omega
      have ht0 : (0 : Int) ≤ (t : Int) := by omega
      cases hp : permB N
      · have p1 := fun v W h (hW : Below wr.heap.size wr W) => i10out_no m e n f N v W h (by omega) (by omega) (by omega) (by omega) hNa hNb hp (hT.mono (HW0.out W hW))
        have p2 := fun v W h => r10out_no m e n f N v W h (by omega) (by omega) (by omega) (by omega) hNa hNb hp
        have ss := fun v u W h1 h2 => r10same_any 0 0 0 0 0 0 0 0 v u W h1 h2 zl0 zl0 zl0 zl0 (by omega) (by omega) (by omega) (by omega)
        rw [show ((decide ((0 : Int) = 0) && decide ((0 : Int) = 0)) && (decide ((0 : Int) = 0) && decide ((0 : Int) = 0))) = true from rfl] at ss
        have P1 := Lib.hid p1
        have P2 := Lib.hid p2
        have SS := Lib.hid ss
        clear p1 p2 ss hp
        have cel00 := L.b0.c60
        have cel01 := L.b0.c61
        have cel02 := L.b0.c62
        have cel03 := L.b0.c63
        have cel04 := L.b0.c64
        have cel05 := L.b0.c65
        go_wp2_with fail
        refine (P1.out _ _ (isI_n (m := m) (e := e) (n := n) (f := f) (s := .slice A (zl m) c) (t := .slice B (zl n) d) (L.getN (by simp)) (L.getN (by simp))) L.below).mono ?_
        rintro e w31 ⟨vv, rfl, ii, be⟩
        clear cel00 cel01 cel02 cel03 cel04 cel05
        obtain ⟨A5, c5, B5, d5, rfl, ia, ib⟩ := ii.form
        replace L := ((L.step be).n ib).n ia
        clear be ii ia ib
        have hlg5 := L.b0.lt
        replace L := L.varI w31.heap.size rfl (ng 0) A5 (zl 0) c5 0 (ng 0) B5 (zl 0) d5 0
        have cel10 := L.tl.b0.c60
        have cel11 := L.tl.b0.c61
        have cel12 := L.tl.b0.c62
        have cel13 := L.tl.b0.c63
        have cel14 := L.tl.b0.c64
        have cel15 := L.tl.b0.c65
        go_wp2_with fail
        obtain ⟨g5, hg⟩ : ∃ g, w31.heap.size = g := ⟨_, rfl⟩
        rw [hg] at L hlg5 ⊢
        clear hg
        refine (P2.out _ _ (isI_n (m := m) (e := e) (n := n) (f := f) (s := .slice A (zl m) c) (t := .slice B (zl n) d) (L.getN (by simp)) (L.getN (by simp)))).mono ?_
        rintro e w32 ⟨vv, rfl, ii, be⟩
        clear cel10 cel11 cel12 cel13 cel14 cel15
        obtain ⟨A6, c6, B6, d6, rfl, ia, ib⟩ := ii.form
        replace L := ((L.step be).n ib).n ia
        clear be ii ia ib
        have hlg6 := L.b0.lt
        replace L := L.varI w32.heap.size rfl (ng 0) A6 (zl 0) c6 0 (ng 0) B6 (zl 0) d6 0
        have cel00 := L.b0.c60
        have cel01 := L.b0.c61
        have cel02 := L.b0.c62
        have cel03 := L.b0.c63
        have cel04 := L.b0.c64
        have cel05 := L.b0.c65
        have cel10 := L.tl.b0.c60
        have cel11 := L.tl.b0.c61
        have cel12 := L.tl.b0.c62
        have cel13 := L.tl.b0.c63
        have cel14 := L.tl.b0.c64
        have cel15 := L.tl.b0.c65
        go_wp2_with fail
        obtain ⟨g6, hg⟩ : ∃ g, w32.heap.size = g := ⟨_, rfl⟩
        rw [hg] at L hlg6 cel00 cel01 cel02 cel03 cel04 cel05 ⊢
        clear hg
        refine (SS.out _ _ _ (isI_n (e := 0) (f := 0) (s := .slice A5 (zl 0) c5) (t := .slice B5 (zl 0) d5) (L.getN (by simp)) (L.getN (by simp))) (isI_n (e := 0) (f := 0) (s := .slice A6 (zl 0) c6) (t := .slice B6 (zl 0) d6) (L.getN (by simp)) (L.getN (by simp)))).mono ?_
        rintro e w33 ⟨rfl, be⟩
        clear cel00 cel01 cel02 cel03 cel04 cel05 cel10 cel11 cel12 cel13 cel14 cel15
        replace L := L.step be
        clear be
        go_wp2_with fail
        go_roundw
        case rel => exact ⟨t + 1, by go_num, by omega, hbe.trans (L.below.mono hbs)⟩
        case measure => simp [intOf]; omega
      · obtain ⟨x1, x2⟩ := out_fits lm ln he hf hp
        have hin := out_in x1 x2
        have p1 := fun v W h (hW : Below wr.heap.size wr W) => i10out_yes m e n f N v W h (by omega) (by omega) (by omega) (by omega) hNa hNb hp x1 x2 (hT.mono (HW0.out W hW))
        have p2 := fun v W h => r10out_yes m e n f N v W h (by omega) (by omega) (by omega) (by omega) hNa hNb hp x1 x2
        have z1 := zl_cutD m e N
        have z2 := zl_neg n
        have z3 := zl_cutD (-n) f N
        rw [dq_neg] at z3
        have z4 := zl_neg (cutQ (-(dq n f)) N)
        have y1 := zl_mk (cutQ (dq m e) N) (-N)
        have y2 := zl_mk (-(cutQ (-(dq n f)) N)) (-N)
        obtain ⟨q1, q2⟩ := perm_yes hp
        have b1 := mkE_le (m := cutQ (dq m e) N) (e := -N) (K := 8192) (by omega) (by omega)
        have b2 := mkE_le (m := -(cutQ (-(dq n f)) N)) (e := -N) (K := 8192) (by omega) (by omega)
        clear x1 x2
        generalize mkE (cutQ (dq m e) N) (-N) = E9 at *
        generalize mkE (-(cutQ (-(dq n f)) N)) (-N) = G9 at *
        generalize mkM (cutQ (dq m e) N) (-N) = M9 at *
        generalize mkM (-(cutQ (-(dq n f)) N)) (-N) = N9 at *
        have ss := fun v u W h1 h2 => r10same_any M9 E9 N9 G9 M9 E9 N9 G9 v u W h1 h2 (by omega) (by omega) (by omega) (by omega) (by omega) (by omega) (by omega) (by omega)
        rw [show ((decide (E9 = E9) && decide (M9 = M9)) && (decide (G9 = G9) && decide (N9 = N9))) = true from by simp] at ss
        have wi := fun v u W h1 h2 => i10within_any m e n f M9 E9 N9 G9 v u W h1 h2 (by omega) (by omega) (by omega) (by omega) (by omega) (by omega) (by omega) (by omega)
        rw [hin] at wi
        have WI := Lib.hid wi
        clear wi hin z1 z2 z3 z4 y1 y2 b1 b2 q1 q2
        have P1 := Lib.hid p1
        have P2 := Lib.hid p2
        have SS := Lib.hid ss
        clear p1 p2 ss hp
        have cel00 := L.b0.c60
        have cel01 := L.b0.c61
        have cel02 := L.b0.c62
        have cel03 := L.b0.c63
        have cel04 := L.b0.c64
        have cel05 := L.b0.c65
        go_wp2_with fail
        refine (P1.out _ _ (isI_n (m := m) (e := e) (n := n) (f := f) (s := .slice A (zl m) c) (t := .slice B (zl n) d) (L.getN (by simp)) (L.getN (by simp))) L.below).mono ?_
        rintro e w31 ⟨vv, rfl, ii, be⟩
        clear cel00 cel01 cel02 cel03 cel04 cel05
        obtain ⟨A5, c5, B5, d5, rfl, ia, ib⟩ := ii.form
        replace L := ((L.step be).n ib).n ia
        clear be ii ia ib
        have hlg5 := L.b0.lt
        replace L := L.varI w31.heap.size rfl (ng M9) A5 (zl M9) c5 E9 (ng N9) B5 (zl N9) d5 G9
        have cel10 := L.tl.b0.c60
        have cel11 := L.tl.b0.c61
        have cel12 := L.tl.b0.c62
        have cel13 := L.tl.b0.c63
        have cel14 := L.tl.b0.c64
        have cel15 := L.tl.b0.c65
        go_wp2_with fail
        obtain ⟨g5, hg⟩ : ∃ g, w31.heap.size = g := ⟨_, rfl⟩
        rw [hg] at L hlg5 ⊢
        clear hg
        refine (P2.out _ _ (isI_n (m := m) (e := e) (n := n) (f := f) (s := .slice A (zl m) c) (t := .slice B (zl n) d) (L.getN (by simp)) (L.getN (by simp)))).mono ?_
        rintro e w32 ⟨vv, rfl, ii, be⟩
        clear cel10 cel11 cel12 cel13 cel14 cel15
        obtain ⟨A6, c6, B6, d6, rfl, ia, ib⟩ := ii.form
        replace L := ((L.step be).n ib).n ia
        clear be ii ia ib
        have hlg6 := L.b0.lt
        replace L := L.varI w32.heap.size rfl (ng M9) A6 (zl M9) c6 E9 (ng N9) B6 (zl N9) d6 G9
        have cel00 := L.b0.c60
        have cel01 := L.b0.c61
        have cel02 := L.b0.c62
        have cel03 := L.b0.c63
        have cel04 := L.b0.c64
        have cel05 := L.b0.c65
        have cel10 := L.tl.b0.c60
        have cel11 := L.tl.b0.c61
        have cel12 := L.tl.b0.c62
        have cel13 := L.tl.b0.c63
        have cel14 := L.tl.b0.c64
        have cel15 := L.tl.b0.c65
        go_wp2_with fail
        obtain ⟨g6, hg⟩ : ∃ g, w32.heap.size = g := ⟨_, rfl⟩
        rw [hg] at L hlg6 cel00 cel01 cel02 cel03 cel04 cel05 ⊢
        clear hg
        refine (SS.out _ _ _ (isI_n (e := E9) (f := G9) (s := .slice A5 (zl M9) c5) (t := .slice B5 (zl N9) d5) (L.getN (by simp)) (L.getN (by simp))) (isI_n (e := E9) (f := G9) (s := .slice A6 (zl M9) c6) (t := .slice B6 (zl N9) d6) (L.getN (by simp)) (L.getN (by simp)))).mono ?_
        rintro e w33 ⟨rfl, be⟩
        clear cel00 cel01 cel02 cel03 cel04 cel05 cel10 cel11 cel12 cel13 cel14 cel15
        replace L := L.step be
        clear be
        have cel10 := L.tl.b0.c60
        have cel11 := L.tl.b0.c61
        have cel12 := L.tl.b0.c62
        have cel13 := L.tl.b0.c63
        have cel14 := L.tl.b0.c64
        have cel15 := L.tl.b0.c65
        have cel20 := L.tl.tl.b0.c60
        have cel21 := L.tl.tl.b0.c61
        have cel22 := L.tl.tl.b0.c62
        have cel23 := L.tl.tl.b0.c63
        have cel24 := L.tl.tl.b0.c64
        have cel25 := L.tl.tl.b0.c65
        go_wp2_with fail
        refine (WI.out _ _ _ (isI_n (m := m) (e := e) (n := n) (f := f) (s := .slice A (zl m) c) (t := .slice B (zl n) d) (L.getN (by simp)) (L.getN (by simp))) (isI_n (e := E9) (f := G9) (s := .slice A5 (zl M9) c5) (t := .slice B5 (zl N9) d5) (L.getN (by simp)) (L.getN (by simp)))).mono ?_
        rintro e w34 ⟨rfl, be⟩
        clear cel10 cel11 cel12 cel13 cel14 cel15 cel20 cel21 cel22 cel23 cel24 cel25
        replace L := L.step be
        clear be
        go_wp2_with fail
        go_roundw
        case rel => exact ⟨t + 1, by go_num, by omega, hbe.trans (L.below.mono hbs)⟩
        case measure => simp [intOf]; omega

end Go.Proofs.YtgcmdlannbobgaaDoor
