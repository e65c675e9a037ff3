/- The walk of RadicalProducts: whatever the input, the law returns true and turns nothing that was there. -/
import Derived.Test.YthfabjpbdgieoaaGreatDoorAwake12
import Derived.Test.YthfabjpbdgieoaaGreatDoorRdY
import Derived.Deep.RegionHeld3
import Derived.Deep.DrawnRows
namespace Go.Proofs.YthfabjpbdgieoaaGreatDoor
open Go.RowKit
set_option linter.unusedVariables false
set_option linter.unusedSimpArgs false
set_option maxRecDepth 100000
attribute [local go_sem ↓] Go.wp_at_zero Go.wp_at_succ

set_option maxHeartbeats 64000000 in
theorem walk_RadicalProducts (b0 : Bool) (a0 : Option Addr) (len0 cap0 : Nat) (z0 : List Nat) (f0 : Int) (bb0 : Bool) (aa0 : Option Addr) (ll0 cc0 : Nat) (zz0 : List Nat) (ff0 : Int) (a1 : Int) (w : World) (h0 : Sl w a0 len0 cap0 z0 ∧ -9223372036854775808 ≤ f0 ∧ f0 ≤ 9223372036854775807) (k0 : Sl w aa0 ll0 cc0 zz0 ∧ -9223372036854775808 ≤ ff0 ∧ ff0 ≤ 9223372036854775807) (h1 : -9223372036854775808 ≤ a1 ∧ a1 ≤ 9223372036854775807) (hT : Tab w) :
    Calls Tryz.prog 7 #[.agg #[.bool b0, .slice a0 len0 cap0, .int .i64 f0, .bool bb0, .slice aa0 ll0 cc0, .int .i64 ff0], .int .i64 a1] w (fun e w' => e = .returned (.bool true) ∧ Below w.heap.size w w') := by
  have HT := Lib.hid (fun W (hW : Below w.heap.size w W) => hT.mono hW)
  clear hT
  go_enter Tryz.func7, Tryz.ntmps7
  go_wp2_with fail
  have L := ((Lq.mk0 w).varI (w.heap.size) (by simp) b0 a0 len0 cap0 f0 bb0 aa0 ll0 cc0 ff0)
  (try go_wp2_with fail)
  refine (awake12_any _ (HT.out _ L.below)).mono ?_
  rintro e9 w1 ⟨rfl, be⟩
  replace L := L.step be
  clear be
  have c00 := L.b0.c60
  have c01 := L.b0.c61
  have c02 := L.b0.c62
  have c03 := L.b0.c63
  have c04 := L.b0.c64
  have c05 := L.b0.c65
  (try go_wp2_with fail)
  refine (millI_any b0 bb0 z0 zz0 2 6 a0 aa0 len0 cap0 ll0 cc0 f0 ff0 _ (h0.1.mono L.below) (k0.1.mono L.below) (by omega) (by omega) h0.2.1 h0.2.2 k0.2.1 k0.2.2).mono ?_
  rintro e9 w2 ⟨vx, ok, m, e, n, f, rfl, ii, ⟨lm, ln⟩, he, hf, hv, le1, be⟩
  clear c00 c01 c02 c03 c04 c05
  obtain ⟨A, c, B, d, rfl, ia, ib⟩ := ii.form
  replace L := ((L.step be).n ib).n ia
  clear be ii ia ib
  have hlt0 := L.b0.lt
  replace L := L.varI w2.heap.size rfl (ng m) A (zl m) c e (ng n) B (zl n) d f
  cases ok
  · go_wp2_with fail
    go_ret
    exact ⟨rfl, L.below⟩
  obtain ⟨dv1, dv2⟩ := hv (by first | trivial | rfl)
  clear hv
  obtain ⟨r1, hr1⟩ : ∃ r : Nat, a1 % 60 = (r : Int) := ⟨(a1 % 60).toNat, by omega⟩
  have o1 := fun W => mod_any a1 60 W (by omega) (by omega) h1.1 h1.2
  rw [hr1] at o1
  have br1 : r1 < 60 := by omega
  have MO1 := Lib.hid o1
  clear o1 hr1
  obtain ⟨M1, E1, N1, G1, M2, E2, N2, G2, M3, E3, N3, G3, M4, E4, N4, G4, p1, p2, p3, p4, p5, p6⟩ := prods_ok (k := (r1 : Int)) lm ln (by omega) (by omega) dv1 dv2 le1 (by omega)
  have P1 := Lib.hid p1
  have P2 := Lib.hid p2
  have P3 := Lib.hid p3
  have P4 := Lib.hid p4
  have P5 := Lib.hid p5
  have P6 := Lib.hid p6
  clear p1 p2 p3 p4 p5 p6 br1 lm ln he hf le1 dv1 dv2
  have cel00 := L.b0.c60
  have cel01 := L.b0.c61
  have cel02 := L.b0.c62
  have cel03 := L.b0.c63
  have cel04 := L.b0.c64
  have cel05 := L.b0.c65
  go_wp2_with fail
  obtain ⟨g, hg⟩ : ∃ g, w2.heap.size = g := ⟨_, rfl⟩
  rw [hg] at L hlt0 cel00 cel01 cel02 cel03 cel04 cel05 ⊢
  clear hg
  refine (MO1.out _).mono ?_
  rintro e9 w' ⟨rfl, rfl⟩
  go_wp2_with fail
  refine (P1.out _ _ (isI_n (m := m) (e := e) (n := n) (f := f) (s := .slice A (zl m) c) (t := .slice B (zl n) d) (L.getN (by simp)) (L.getN (by simp))) (HT.out _ L.below)).mono ?_
  rintro e w3 ⟨vv, rfl, ii, be⟩
  clear cel00 cel01 cel02 cel03 cel04 cel05
  obtain ⟨A11, c11, B11, d11, rfl, ia, ib⟩ := ii.form
  replace L := ((L.step be).n ib).n ia
  clear be ii ia ib
  have hlgv10 := L.b0.lt
  replace L := L.varI w3.heap.size rfl (ng M1) A11 (zl M1) c11 E1 (ng N1) B11 (zl N1) d11 G1
  have cel10 := L.tl.b0.c60
  have cel11 := L.tl.b0.c61
  have cel12 := L.tl.b0.c62
  have cel13 := L.tl.b0.c63
  have cel14 := L.tl.b0.c64
  have cel15 := L.tl.b0.c65
  go_wp2_with fail
  obtain ⟨gv1, hg⟩ : ∃ g, w3.heap.size = g := ⟨_, rfl⟩
  rw [hg] at L hlgv10 ⊢
  clear hg
  refine (P2.out _ _ _ (isI_n (m := m) (e := e) (n := n) (f := f) (s := .slice A (zl m) c) (t := .slice B (zl n) d) (L.getN (by simp)) (L.getN (by simp))) (isI_n (m := m) (e := e) (n := n) (f := f) (s := .slice A (zl m) c) (t := .slice B (zl n) d) (L.getN (by simp)) (L.getN (by simp))) (HT.out _ L.below)).mono ?_
  rintro e w4 ⟨vv, rfl, ii, be⟩
  clear cel10 cel11 cel12 cel13 cel14 cel15
  obtain ⟨A12, c12, B12, d12, rfl, ia, ib⟩ := ii.form
  replace L := ((L.step be).n ib).n ia
  clear be ii ia ib
  have hlgv20 := L.b0.lt
  replace L := L.varI w4.heap.size rfl (ng M2) A12 (zl M2) c12 E2 (ng N2) B12 (zl N2) d12 G2
  have cel00 := L.b0.c60
  have cel01 := L.b0.c61
  have cel02 := L.b0.c62
  have cel03 := L.b0.c63
  have cel04 := L.b0.c64
  have cel05 := L.b0.c65
  have cel10 := L.tl.b0.c60
  have cel11 := L.tl.b0.c61
  have cel12 := L.tl.b0.c62
  have cel13 := L.tl.b0.c63
  have cel14 := L.tl.b0.c64
  have cel15 := L.tl.b0.c65
  go_wp2_with fail
  obtain ⟨gv2, hg⟩ : ∃ g, w4.heap.size = g := ⟨_, rfl⟩
  rw [hg] at L hlgv20 cel00 cel01 cel02 cel03 cel04 cel05 ⊢
  clear hg
  refine (P3.out _ _ _ (isI_n (m := M1) (e := E1) (n := N1) (f := G1) (s := .slice A11 (zl M1) c11) (t := .slice B11 (zl N1) d11) (L.getN (by simp)) (L.getN (by simp))) (isI_n (m := M2) (e := E2) (n := N2) (f := G2) (s := .slice A12 (zl M2) c12) (t := .slice B12 (zl N2) d12) (L.getN (by simp)) (L.getN (by simp)))).mono ?_
  rintro e w5 ⟨rfl, be⟩
  clear cel00 cel01 cel02 cel03 cel04 cel05 cel10 cel11 cel12 cel13 cel14 cel15
  replace L := L.step be
  clear be
  have cel10 := L.tl.b0.c60
  have cel11 := L.tl.b0.c61
  have cel12 := L.tl.b0.c62
  have cel13 := L.tl.b0.c63
  have cel14 := L.tl.b0.c64
  have cel15 := L.tl.b0.c65
  go_wp2_with fail
  refine (P4.out _ _ (isI_n (m := M1) (e := E1) (n := N1) (f := G1) (s := .slice A11 (zl M1) c11) (t := .slice B11 (zl N1) d11) (L.getN (by simp)) (L.getN (by simp))) (HT.out _ L.below)).mono ?_
  rintro e w6 ⟨vv, rfl, ii, be⟩
  clear cel10 cel11 cel12 cel13 cel14 cel15
  obtain ⟨A13, c13, B13, d13, rfl, ia, ib⟩ := ii.form
  replace L := ((L.step be).n ib).n ia
  clear be ii ia ib
  have hlgv30 := L.b0.lt
  replace L := L.varI w6.heap.size rfl (ng M3) A13 (zl M3) c13 E3 (ng N3) B13 (zl N3) d13 G3
  have cel00 := L.b0.c60
  have cel01 := L.b0.c61
  have cel02 := L.b0.c62
  have cel03 := L.b0.c63
  have cel04 := L.b0.c64
  have cel05 := L.b0.c65
  go_wp2_with fail
  obtain ⟨gv3, hg⟩ : ∃ g, w6.heap.size = g := ⟨_, rfl⟩
  rw [hg] at L hlgv30 cel00 cel01 cel02 cel03 cel04 cel05 ⊢
  clear hg
  refine (P5.out _ _ (isI_n (m := M3) (e := E3) (n := N3) (f := G3) (s := .slice A13 (zl M3) c13) (t := .slice B13 (zl N3) d13) (L.getN (by simp)) (L.getN (by simp))) (HT.out _ L.below)).mono ?_
  rintro e w7 ⟨vv, rfl, ii, be⟩
  clear cel00 cel01 cel02 cel03 cel04 cel05
  obtain ⟨A14, c14, B14, d14, rfl, ia, ib⟩ := ii.form
  replace L := ((L.step be).n ib).n ia
  clear be ii ia ib
  have hlgv40 := L.b0.lt
  have hlgv41 := L.tl.b0.lt
  have hlgv42 := L.tl.tl.b0.lt
  replace L := L.varI w7.heap.size rfl (ng M4) A14 (zl M4) c14 E4 (ng N4) B14 (zl N4) d14 G4
  have cel00 := L.b0.c60
  have cel01 := L.b0.c61
  have cel02 := L.b0.c62
  have cel03 := L.b0.c63
  have cel04 := L.b0.c64
  have cel05 := L.b0.c65
  have cel30 := L.tl.tl.tl.b0.c60
  have cel31 := L.tl.tl.tl.b0.c61
  have cel32 := L.tl.tl.tl.b0.c62
  have cel33 := L.tl.tl.tl.b0.c63
  have cel34 := L.tl.tl.tl.b0.c64
  have cel35 := L.tl.tl.tl.b0.c65
  go_wp2_with fail
  obtain ⟨gv4, hg⟩ : ∃ g, w7.heap.size = g := ⟨_, rfl⟩
  rw [hg] at L hlgv40 hlgv41 hlgv42 cel00 cel01 cel02 cel03 cel04 cel05 ⊢
  clear hg
  refine (P6.out _ _ _ (isI_n (m := M1) (e := E1) (n := N1) (f := G1) (s := .slice A11 (zl M1) c11) (t := .slice B11 (zl N1) d11) (L.getN (by simp)) (L.getN (by simp))) (isI_n (m := M4) (e := E4) (n := N4) (f := G4) (s := .slice A14 (zl M4) c14) (t := .slice B14 (zl N4) d14) (L.getN (by simp)) (L.getN (by simp)))).mono ?_
  rintro e w8 ⟨rfl, be⟩
  clear cel00 cel01 cel02 cel03 cel04 cel05 cel30 cel31 cel32 cel33 cel34 cel35
  replace L := L.step be
  clear be
  go_wp2_with fail
  go_ret
  exact ⟨rfl, L.below⟩

end Go.Proofs.YthfabjpbdgieoaaGreatDoor
