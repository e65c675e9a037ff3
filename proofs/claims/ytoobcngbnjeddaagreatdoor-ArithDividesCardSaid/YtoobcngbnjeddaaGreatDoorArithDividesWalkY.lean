/- The walk of ArithDivides: whatever the input, the law returns true and turns nothing that was there. -/
import Derived.Test.YtoobcngbnjeddaaGreatDoorAwake11
import Derived.Test.YtoobcngbnjeddaaGreatDoorBaseW
import Derived.Test.YtoobcngbnjeddaaGreatDoorArDvsY
import Derived.Deep.RegionHeld3
import Derived.Deep.DrawnRows
import Derived.Deep.Cut
import Derived.Deep.CutRange
namespace Go.Proofs.YtoobcngbnjeddaaGreatDoor
open Go.RowKit
set_option linter.unusedVariables false
set_option linter.unusedSimpArgs false
set_option maxRecDepth 100000
attribute [local go_sem ↓] Go.wp_at_zero Go.wp_at_succ

set_option maxHeartbeats 128000000 in
theorem walk_ArithDivides (b0 : Bool) (a0 : Option Addr) (len0 cap0 : Nat) (z0 : List Nat) (f0 : Int) (bb0 : Bool) (aa0 : Option Addr) (ll0 cc0 : Nat) (zz0 : List Nat) (ff0 : Int) (b1 : Bool) (a1 : Option Addr) (len1 cap1 : Nat) (z1 : List Nat) (f1 : Int) (bb1 : Bool) (aa1 : Option Addr) (ll1 cc1 : Nat) (zz1 : List Nat) (ff1 : Int) (a2 : Int) (a3 : Bool) (w : World) (h0 : Sl w a0 len0 cap0 z0 ∧ -9223372036854775808 ≤ f0 ∧ f0 ≤ 9223372036854775807) (k0 : Sl w aa0 ll0 cc0 zz0 ∧ -9223372036854775808 ≤ ff0 ∧ ff0 ≤ 9223372036854775807) (h1 : Sl w a1 len1 cap1 z1 ∧ -9223372036854775808 ≤ f1 ∧ f1 ≤ 9223372036854775807) (k1 : Sl w aa1 ll1 cc1 zz1 ∧ -9223372036854775808 ≤ ff1 ∧ ff1 ≤ 9223372036854775807) (h2 : -9223372036854775808 ≤ a2 ∧ a2 ≤ 9223372036854775807)  (hT : Tab w) :
    Calls Tryz.prog 4 #[.agg #[.bool b0, .slice a0 len0 cap0, .int .i64 f0, .bool bb0, .slice aa0 ll0 cc0, .int .i64 ff0], .agg #[.bool b1, .slice a1 len1 cap1, .int .i64 f1, .bool bb1, .slice aa1 ll1 cc1, .int .i64 ff1], .int .i64 a2, .bool a3] w (fun e w' => e = .returned (.bool true) ∧ Below w.heap.size w w') := by
  have HT := Lib.hid (fun W (hW : Below w.heap.size w W) => hT.mono hW)
  clear hT
  go_enter Tryz.func4, Tryz.ntmps4
  go_wp2_with fail
  have L := (((Lq.mk0 w).varI (w.heap.size) (by simp) b0 a0 len0 cap0 f0 bb0 aa0 ll0 cc0 ff0).varI (w.heap.size + 1) (by simp) b1 a1 len1 cap1 f1 bb1 aa1 ll1 cc1 ff1)
  (try go_wp2_with fail)
  refine (awake11_any _ (HT.out _ L.below)).mono ?_
  rintro e9 w1 ⟨rfl, be⟩
  replace L := L.step be
  clear be
  have c00 := L.b0.c60
  have c01 := L.b0.c61
  have c02 := L.b0.c62
  have c03 := L.b0.c63
  have c04 := L.b0.c64
  have c05 := L.b0.c65
  have c10 := L.tl.b0.c60
  have c11 := L.tl.b0.c61
  have c12 := L.tl.b0.c62
  have c13 := L.tl.b0.c63
  have c14 := L.tl.b0.c64
  have c15 := L.tl.b0.c65
  (try go_wp2_with fail)
  refine (two11_any b0 bb0 z0 zz0 a0 aa0 len0 cap0 ll0 cc0 f0 ff0 b1 bb1 z1 zz1 a1 aa1 len1 cap1 ll1 cc1 f1 ff1 _ (h0.1.mono L.below) (k0.1.mono L.below) h0.2 k0.2 (h1.1.mono L.below) (k1.1.mono L.below) h1.2 k1.2).mono ?_
  rintro e9 w2 ⟨vx, vy, ok, m, e, n, f, m2, e2, n2, f2, rfl, ix, iy, ⟨lm, he⟩, ⟨ln, hf⟩, ⟨lm2, he2⟩, ⟨ln2, hf2⟩, hv, le1, le2, be⟩
  clear c00 c01 c02 c03 c04 c05 c10 c11 c12 c13 c14 c15
  obtain ⟨A, c, B, d, rfl, i1, i2⟩ := ix.form
  obtain ⟨A2, k2, B2, d2, rfl, i3, i4⟩ := iy.form
  replace L := ((((L.step be).n i4).n i3).n i2).n i1
  clear be ix iy i1 i2 i3 i4
  have hlt0 := L.b0.lt
  cases ok
  · replace L := (L.varI w2.heap.size rfl (ng m) A (zl m) c e (ng n) B (zl n) d f).varI (w2.heap.size + 1) (by simp) (ng m2) A2 (zl m2) k2 e2 (ng n2) B2 (zl n2) d2 f2
    go_wp2_with fail
    go_ret
    exact ⟨rfl, L.below⟩
  obtain ⟨_, _, dv3, dv4⟩ := hv rfl
  clear hv
  have HDQ := Lib.hid (fun (m5 e5 n5 f5 k : Int) (h : ElI m5 e5 n5 f5) hk1 hk2 => divs_ok (k := k) lm ln he hf le1 (HT.out _ (Below.refl _ _)) h hk1 hk2)
  have hE3 : ElI 0 0 0 0 := by
    have z0 := zl0
    exact ⟨by omega, by omega, by decide⟩
  have HE3 := Lib.hid hE3
  have o00 := fun W => of11_any (0) 0 W (by omega) (by omega)
  rw [of_0.1, of_0.2] at o00
  have HO := Lib.hid o00
  clear o00 hE3
  cases a3
  · replace L := (L.varI w2.heap.size rfl (ng m) A (zl m) c e (ng n) B (zl n) d f).varI (w2.heap.size + 1) (by simp) (ng m2) A2 (zl m2) k2 e2 (ng n2) B2 (zl n2) d2 f2
    have leY : dcm m2 e2 n2 f2 ≤ 0 := le2
    obtain ⟨_, _, _, t5, t6, t7, _, _⟩ := thin_ok (j := 3) (by omega) lm2 ln2 he2 hf2 leY dv4
    have x1 := fun v W h => (show Calls Tryz.prog 21 #[v, .int .i64 3] W (RetI6 W m2 e2 (thN m2 e2 n2 f2 3) (thF m2 e2 n2 f2 3)) from thin_any m2 e2 n2 f2 3 (by omega) v W h lm2 ln2 he2 hf2 leY dv4)
    obtain ⟨n4, hn4⟩ : ∃ z, thN m2 e2 n2 f2 3 = z := ⟨_, rfl⟩
    obtain ⟨f4, hf4⟩ : ∃ z, thF m2 e2 n2 f2 3 = z := ⟨_, rfl⟩
    rw [hn4, hf4] at x1 t7
    rw [hn4] at t5
    rw [hf4] at t6
    clear hn4 hf4
    have hE1 : ElI m2 e2 n2 f2 := ⟨by omega, by omega, leY⟩
    have hE2 : ElI m2 e2 n4 f4 := ⟨by omega, ⟨t5, t6⟩, t7⟩
    have HE1 := Lib.hid hE1
    have HE2 := Lib.hid hE2
    have HT1 := Lib.hid x1
    clear x1 hE1 hE2 t5 t6 t7 leY dv3 dv4 le1 le2 lm ln lm2 ln2 he hf he2 hf2
    have cel00 := L.b0.c60
    have cel01 := L.b0.c61
    have cel02 := L.b0.c62
    have cel03 := L.b0.c63
    have cel04 := L.b0.c64
    have cel05 := L.b0.c65
    have cel10 := L.tl.b0.c60
    have cel11 := L.tl.b0.c61
    have cel12 := L.tl.b0.c62
    have cel13 := L.tl.b0.c63
    have cel14 := L.tl.b0.c64
    have cel15 := L.tl.b0.c65
    go_wp2_with fail
    obtain ⟨g, hg⟩ : ∃ g, w2.heap.size = g := ⟨_, rfl⟩
    rw [hg] at L hlt0 cel00 cel01 cel02 cel03 cel04 cel05 cel10 cel11 cel12 cel13 cel14 cel15 ⊢
    clear hg
    refine (works_any a2 _ h2.1 h2.2).mono ?_
    rintro e9 w3 ⟨gw, N0, N1, N2, N3, rfl, hvw, hNN, be⟩
    replace L := L.step be
    clear be
    clear cel00 cel01 cel02 cel03 cel04 cel05 cel10 cel11 cel12 cel13 cel14 cel15
    have HCE := Lib.hid (fun (wr : World) (hW : Below w3.heap.size w3 wr) (j : Nat) (hj : j < 4) => row4_cell (hvw.mono hW) hNN j hj)
    have hgw := hvw.lt
    have GA := Lib.hid (fun (wr : World) (hW : Below w3.heap.size w3 wr) => (L.getN (v := .slice A (zl m) c) (x := m.natAbs) (by simp)).mono hW)
    have GB := Lib.hid (fun (wr : World) (hW : Below w3.heap.size w3 wr) => (L.getN (v := .slice B (zl n) d) (x := n.natAbs) (by simp)).mono hW)
    have GC := Lib.hid (fun (wr : World) (hW : Below w3.heap.size w3 wr) => (L.getN (v := .slice A2 (zl m2) k2) (x := m2.natAbs) (by simp)).mono hW)
    have GD := Lib.hid (fun (wr : World) (hW : Below w3.heap.size w3 wr) => (L.getN (v := .slice B2 (zl n2) d2) (x := n2.natAbs) (by simp)).mono hW)
    have VX := Lib.hid (fun (wr : World) (hW : Below w3.heap.size w3 wr) => L.tl.b0.mono hW)
    have VY := Lib.hid (fun (wr : World) (hW : Below w3.heap.size w3 wr) => L.b0.mono hW)
    have hwV := L.below.size
    have hWW := Lib.hid (fun (wr : World) (hW : Below w3.heap.size w3 wr) => L.below.trans (hW.mono hwV))
    clear hNN hvw L
    go_wp2_with fail
    go_loopw [38] (fun i wr => ∃ t : Nat, i = .int .i64 (t : Int) ∧ t ≤ 4 ∧ Below w3.heap.size w3 wr) (fun i _ => 4 - (intOf i).toNat)
    case atStart => exact ⟨0, rfl, by omega, Below.refl _ _⟩
    case round =>
      obtain ⟨t, rfl, ht, hbe⟩ := hrel
      have hbs := hbe.size
      have hw9 := (hWW.out wr hbe).size
      have HW0 := Lib.hid (fun W (hW : Below wr.heap.size wr W) => (hWW.out wr hbe).trans (hW.mono hw9))
      rcases Nat.eq_or_lt_of_le ht with rfl | ht3
      · go_wp2_with fail
        go_ret
        exact ⟨rfl, HW0.out _ (Below.refl _ _)⟩
      · obtain ⟨N, hN, hNa, hNb⟩ := HCE.out wr hbe t ht3
        have hlt : (t : Int) < 4 := by omega
        have ht0 : (0 : Int) ≤ (t : Int) := by omega
        have L : Lq wr wr [(.slice A (zl m) c, m.natAbs), (.slice B (zl n) d, n.natAbs), (.slice A2 (zl m2) k2, m2.natAbs), (.slice B2 (zl n2) d2, n2.natAbs)] [] [] [(g + 1, 28, #[.bool (ng m2), .slice A2 (zl m2) k2, .int .i64 e2, .bool (ng n2), .slice B2 (zl n2) d2, .int .i64 f2]), (g, 28, #[.bool (ng m), .slice A (zl m) c, .int .i64 e, .bool (ng n), .slice B (zl n) d, .int .i64 f])] := ((((((Lq.mk0 wr).n (GD.out wr hbe)).n (GC.out wr hbe)).n (GB.out wr hbe)).n (GA.out wr hbe)).b (VX.out wr hbe)).b (VY.out wr hbe)
        (try go_wp2_with fail)
        replace L := L.drew
        have cel00 := L.b0.c60
        have f00 := L.b0.fr 0
        have cel01 := L.b0.c61
        have f01 := L.b0.fr 1
        have cel02 := L.b0.c62
        have f02 := L.b0.fr 2
        have cel03 := L.b0.c63
        have f03 := L.b0.fr 3
        have cel04 := L.b0.c64
        have f04 := L.b0.fr 4
        have cel05 := L.b0.c65
        have f05 := L.b0.fr 5
        have cel10 := L.tl.b0.c60
        have cel11 := L.tl.b0.c61
        have cel12 := L.tl.b0.c62
        have cel13 := L.tl.b0.c63
        have cel14 := L.tl.b0.c64
        have cel15 := L.tl.b0.c65
        go_region_held3 (fun w' => w'.cell? ⟨g + 1, 0, none⟩ = some (.bool (ng m2)) ∧ w'.cell? ⟨g + 1, 1, none⟩ = some (.slice A2 (zl m2) k2) ∧ w'.cell? ⟨g + 1, 2, none⟩ = some (.int .i64 e2) ∧ w'.cell? ⟨g + 1, 3, none⟩ = some (.bool (ng n2)) ∧ w'.cell? ⟨g + 1, 4, none⟩ = some (.slice B2 (zl n2) d2) ∧ w'.cell? ⟨g + 1, 5, none⟩ = some (.int .i64 f2)) (first | (with_reducible exact ⟨L.b0.c60, L.b0.c61, L.b0.c62, L.b0.c63, L.b0.c64, L.b0.c65⟩) | (have LN := L.var _ rfl 28 #[.bool (ng m2), .slice A2 (zl m2) k2, .int .i64 e2, .bool (ng n2), .slice B2 (zl n2) d2, .int .i64 f2, .bool (ng m2), .slice A5 (zl m2) c5, .int .i64 e2, .bool (ng n4), .slice B5 (zl n4) d5, .int .i64 f4, .bool (ng 0), .slice A6 (zl 0) c6, .int .i64 0, .bool (ng 0), .slice B6 (zl 0) d6, .int .i64 0] (plainJ_3 m2 e2 n2 f2 A2 B2 k2 d2 m2 e2 n4 f4 A5 B5 c5 d5 0 0 0 0 A6 B6 c6 d6); with_reducible exact ⟨LN.tl.b0.c60, LN.tl.b0.c61, LN.tl.b0.c62, LN.tl.b0.c63, LN.tl.b0.c64, LN.tl.b0.c65⟩) | exact ⟨L.b0.c60, L.b0.c61, L.b0.c62, L.b0.c63, L.b0.c64, L.b0.c65⟩) (first | (go_at_call 21; (with_reducible refine (HT1.out _ _ ?_).mono ?_); (· (refine isI_n (L.getN ?_) (L.getN ?_) <;> (repeat (first | (with_reducible exact List.mem_cons_self) | apply List.mem_cons_of_mem)))); rintro e wh ⟨vh, rfl, ii, be⟩; obtain ⟨A5, c5, B5, d5, rfl, ia, ib⟩ := ii.form; replace L := ((L.step be).n ib).n ia; clear be ii ia ib; (try (have x00 := L.b0.c60; have y00 := L.b0.fr 0; have x01 := L.b0.c61; have y01 := L.b0.fr 1; have x02 := L.b0.c62; have y02 := L.b0.fr 2; have x03 := L.b0.c63; have y03 := L.b0.fr 3; have x04 := L.b0.c64; have y04 := L.b0.fr 4; have x05 := L.b0.c65; have y05 := L.b0.fr 5))) | (go_at_call 22; (with_reducible refine (HO.out _).mono ?_); rintro e wh ⟨vh, rfl, ii, be⟩; obtain ⟨A6, c6, B6, d6, rfl, ia, ib⟩ := ii.form; replace L := ((L.step be).n ib).n ia; clear be ii ia ib; (try (have x00 := L.b0.c60; have y00 := L.b0.fr 0; have x01 := L.b0.c61; have y01 := L.b0.fr 1; have x02 := L.b0.c62; have y02 := L.b0.fr 2; have x03 := L.b0.c63; have y03 := L.b0.fr 3; have x04 := L.b0.c64; have y04 := L.b0.fr 4; have x05 := L.b0.c65; have y05 := L.b0.fr 5))))
        clear cel00 f00 cel01 f01 cel02 f02 cel03 f03 cel04 f04 cel05 f05 cel10 cel11 cel12 cel13 cel14 cel15
        go_wp2_with fail
        replace L := L.var _ rfl 28 #[.bool (ng m2), .slice A2 (zl m2) k2, .int .i64 e2, .bool (ng n2), .slice B2 (zl n2) d2, .int .i64 f2, .bool (ng m2), .slice A5 (zl m2) c5, .int .i64 e2, .bool (ng n4), .slice B5 (zl n4) d5, .int .i64 f4, .bool (ng 0), .slice A6 (zl 0) c6, .int .i64 0, .bool (ng 0), .slice B6 (zl 0) d6, .int .i64 0] (plainJ_3 m2 e2 n2 f2 A2 B2 k2 d2 m2 e2 n4 f4 A5 B5 c5 d5 0 0 0 0 A6 B6 c6 d6)
        obtain ⟨gl, hgl⟩ : ∃ g, wh.heap.size = g := ⟨_, rfl⟩
        rw [hgl] at L ⊢
        clear hgl
        obtain ⟨U, hU, L9⟩ := L.name
        rw [hU]
        clear hU L
        have L := L9
        clear L9
        have HVU := Lib.hid (hbe.trans (L.below.mono hbs))
        have HWU := Lib.hid (HW0.out _ L.below)
        have HYR := Lib.hid (fun (wr : World) (hW : Below U.heap.size U wr) (t : Nat) (ht : t < 3) => rowJ3_cell (L.b0.mono hW) ((L.getN (v := .slice A2 (zl m2) k2) (x := (m2 : Int).natAbs) (by simp)).mono hW) ((L.getN (v := .slice B2 (zl n2) d2) (x := (n2 : Int).natAbs) (by simp)).mono hW) ((L.getN (v := .slice A5 (zl m2) c5) (x := (m2 : Int).natAbs) (by simp)).mono hW) ((L.getN (v := .slice B5 (zl n4) d5) (x := (n4 : Int).natAbs) (by simp)).mono hW) ((L.getN (v := .slice A6 (zl 0) c6) (x := (0 : Int).natAbs) (by simp)).mono hW) ((L.getN (v := .slice B6 (zl 0) d6) (x := (0 : Int).natAbs) (by simp)).mono hW) HE1.out HE2.out HE3.out t ht)
        have LU := Lib.hid L
        clear L hbe hbs HW0 hw9
        go_loopw [48] (fun i wr => ∃ t : Nat, i = .int .i64 (t : Int) ∧ t ≤ 3 ∧ Below U.heap.size U wr) (fun i _ => 3 - (intOf i).toNat)
        case atStart => exact ⟨0, rfl, by omega, Below.refl _ _⟩
        case round =>
          obtain ⟨t2, rfl, ht2, hbe⟩ := hrel
          have hbs := hbe.size
          rcases Nat.eq_or_lt_of_le ht2 with rfl | ht4
          · go_wp2_with fail
            go_roundw
            case rel => exact ⟨t + 1, by go_num, by omega, HVU.out.trans (hbe.mono HVU.out.size)⟩
            case measure => simp [intOf]; omega
          · obtain ⟨m5, e5, n5, f5, A7, c7, B7, d7, y0, y1, y2, y3, y4, y5, i1, i2, hE⟩ := HYR.out wr hbe t2 ht4
            obtain ⟨M1, E1, N1, G1, r1, ⟨zm1, ze1⟩, ⟨zn1, zg1⟩, p1, q1⟩ := HDQ.out m5 e5 n5 f5 N hE hNa hNb
            have P1 := Lib.hid p1
            have Q1 := Lib.hid q1
            have S1 := Lib.hid (fun v u W h1 h2 => (show Calls Tryz.prog 20 #[v, u] W (RetB W true) from by have s := r10same_any M1 E1 N1 G1 M1 E1 N1 G1 v u W h1 h2 (by omega) (by omega) (by omega) (by omega) (by omega) (by omega) (by omega) (by omega); rwa [show ((decide ((E1 : Int) = E1) && decide ((M1 : Int) = M1)) && (decide ((G1 : Int) = G1) && decide ((N1 : Int) = N1))) = true from by simp] at s))
            have ne1 : (r1 != r1) = false := by simp
            have HW1 := Lib.hid (fun W (hW : Below wr.heap.size wr W) => HWU.out.trans ((hbe.trans (hW.mono hbs)).mono HWU.out.size))
            have hlt2 : (t2 : Int) < 3 := by omega
            have ht02 : (0 : Int) ≤ (t2 : Int) := by omega
            have hgW := (LU.out.step hbe).b0.lt
            have L := (((LU.out.step hbe).rebase.n i2).n i1).varI wr.heap.size rfl (ng m5) A7 (zl m5) c7 e5 (ng n5) B7 (zl n5) d7 f5
            clear i1 i2 hE p1 q1 zm1 ze1 zn1 zg1
            have cel00 := L.b0.c60
            have cel01 := L.b0.c61
            have cel02 := L.b0.c62
            have cel03 := L.b0.c63
            have cel04 := L.b0.c64
            have cel05 := L.b0.c65
            have cel30 := L.tl.tl.tl.b0.c60
            have cel31 := L.tl.tl.tl.b0.c61
            have cel32 := L.tl.tl.tl.b0.c62
            have cel33 := L.tl.tl.tl.b0.c63
            have cel34 := L.tl.tl.tl.b0.c64
            have cel35 := L.tl.tl.tl.b0.c65
            go_wp2_with fail
            clear y0 y1 y2 y3 y4 y5
            obtain ⟨gz, hg⟩ : ∃ g, wr.heap.size = g := ⟨_, rfl⟩
            rw [hg] at L hgW cel00 cel01 cel02 cel03 cel04 cel05 ⊢
            clear hg
            refine (P1.out _ _ _ (isI_n (m := m) (e := e) (n := n) (f := f) (s := .slice A (zl m) c) (t := .slice B (zl n) d) (L.getN (by simp)) (L.getN (by simp))) (isI_n (m := m5) (e := e5) (n := n5) (f := f5) (s := .slice A7 (zl m5) c7) (t := .slice B7 (zl n5) d7) (L.getN (by simp)) (L.getN (by simp))) (HW1.out _ L.below)).mono ?_
            rintro e w61 ⟨vv, rfl, ii, be⟩
            clear cel00 cel01 cel02 cel03 cel04 cel05 cel30 cel31 cel32 cel33 cel34 cel35
            obtain ⟨A10, c10, B10, d10, rfl, ia, ib⟩ := ii.form
            replace L := ((L.step be).n ib).n ia
            clear be ii ia ib
            have hlgv10 := L.b0.lt
            replace L := L.varI w61.heap.size rfl (ng M1) A10 (zl M1) c10 E1 (ng N1) B10 (zl N1) d10 G1
            have cel10 := L.tl.b0.c60
            have cel11 := L.tl.b0.c61
            have cel12 := L.tl.b0.c62
            have cel13 := L.tl.b0.c63
            have cel14 := L.tl.b0.c64
            have cel15 := L.tl.b0.c65
            have cel40 := L.tl.tl.tl.tl.b0.c60
            have cel41 := L.tl.tl.tl.tl.b0.c61
            have cel42 := L.tl.tl.tl.tl.b0.c62
            have cel43 := L.tl.tl.tl.tl.b0.c63
            have cel44 := L.tl.tl.tl.tl.b0.c64
            have cel45 := L.tl.tl.tl.tl.b0.c65
            go_wp2_with fail
            obtain ⟨gv1, hg⟩ : ∃ g, w61.heap.size = g := ⟨_, rfl⟩
            rw [hg] at L hlgv10 ⊢
            clear hg
            refine (Q1.out _ _ _ (isI_n (m := m) (e := e) (n := n) (f := f) (s := .slice A (zl m) c) (t := .slice B (zl n) d) (L.getN (by simp)) (L.getN (by simp))) (isI_n (m := m5) (e := e5) (n := n5) (f := f5) (s := .slice A7 (zl m5) c7) (t := .slice B7 (zl n5) d7) (L.getN (by simp)) (L.getN (by simp)))).mono ?_
            rintro e w62 ⟨vv, rfl, ii, be⟩
            clear cel10 cel11 cel12 cel13 cel14 cel15 cel40 cel41 cel42 cel43 cel44 cel45
            obtain ⟨A11, c11, B11, d11, rfl, ia, ib⟩ := ii.form
            replace L := ((L.step be).n ib).n ia
            clear be ii ia ib
            have hlgv20 := L.b0.lt
            replace L := L.varI w62.heap.size rfl (ng M1) A11 (zl M1) c11 E1 (ng N1) B11 (zl N1) d11 G1
            have cel00 := L.b0.c60
            have cel01 := L.b0.c61
            have cel02 := L.b0.c62
            have cel03 := L.b0.c63
            have cel04 := L.b0.c64
            have cel05 := L.b0.c65
            have cel10 := L.tl.b0.c60
            have cel11 := L.tl.b0.c61
            have cel12 := L.tl.b0.c62
            have cel13 := L.tl.b0.c63
            have cel14 := L.tl.b0.c64
            have cel15 := L.tl.b0.c65
            go_wp2_with fail
            obtain ⟨gv2, hg⟩ : ∃ g, w62.heap.size = g := ⟨_, rfl⟩
            rw [hg] at L hlgv20 cel00 cel01 cel02 cel03 cel04 cel05 ⊢
            clear hg
            refine (S1.out _ _ _ (isI_n (m := M1) (e := E1) (n := N1) (f := G1) (s := .slice A10 (zl M1) c10) (t := .slice B10 (zl N1) d10) (L.getN (by simp)) (L.getN (by simp))) (isI_n (m := M1) (e := E1) (n := N1) (f := G1) (s := .slice A11 (zl M1) c11) (t := .slice B11 (zl N1) d11) (L.getN (by simp)) (L.getN (by simp)))).mono ?_
            rintro e w63 ⟨rfl, be⟩
            clear cel00 cel01 cel02 cel03 cel04 cel05 cel10 cel11 cel12 cel13 cel14 cel15
            replace L := L.step be
            clear be
            go_wp2_with fail
            go_roundw
            case rel => exact ⟨t2 + 1, by go_num, by omega, hbe.trans (L.below.mono hbs)⟩
            case measure => simp [intOf]; omega
  · replace L := (L.varI w2.heap.size rfl (ng m) A (zl m) c e (ng n) B (zl n) d f).varI (w2.heap.size + 1) (by simp) (ng m2) A2 (zl m2) k2 e2 (ng m2) A2 (zl m2) k2 e2
    have leY : dcm m2 e2 m2 e2 ≤ 0 := (dcm_le _ _ _ _).2 Rat.le_refl
    obtain ⟨_, _, _, t5, t6, t7, _, _⟩ := thin_ok (j := 3) (by omega) lm2 lm2 he2 he2 leY dv3
    have x1 := fun v W h => (show Calls Tryz.prog 21 #[v, .int .i64 3] W (RetI6 W m2 e2 (thN m2 e2 m2 e2 3) (thF m2 e2 m2 e2 3)) from thin_any m2 e2 m2 e2 3 (by omega) v W h lm2 lm2 he2 he2 leY dv3)
    obtain ⟨n4, hn4⟩ : ∃ z, thN m2 e2 m2 e2 3 = z := ⟨_, rfl⟩
    obtain ⟨f4, hf4⟩ : ∃ z, thF m2 e2 m2 e2 3 = z := ⟨_, rfl⟩
    rw [hn4, hf4] at x1 t7
    rw [hn4] at t5
    rw [hf4] at t6
    clear hn4 hf4
    have hE1 : ElI m2 e2 m2 e2 := ⟨by omega, by omega, leY⟩
    have hE2 : ElI m2 e2 n4 f4 := ⟨by omega, ⟨t5, t6⟩, t7⟩
    have HE1 := Lib.hid hE1
    have HE2 := Lib.hid hE2
    have HT1 := Lib.hid x1
    clear x1 hE1 hE2 t5 t6 t7 leY dv3 dv4 le1 le2 lm ln lm2 ln2 he hf he2 hf2
    have cel00 := L.b0.c60
    have cel01 := L.b0.c61
    have cel02 := L.b0.c62
    have cel03 := L.b0.c63
    have cel04 := L.b0.c64
    have cel05 := L.b0.c65
    have cel10 := L.tl.b0.c60
    have cel11 := L.tl.b0.c61
    have cel12 := L.tl.b0.c62
    have cel13 := L.tl.b0.c63
    have cel14 := L.tl.b0.c64
    have cel15 := L.tl.b0.c65
    go_wp2_with fail
    obtain ⟨g, hg⟩ : ∃ g, w2.heap.size = g := ⟨_, rfl⟩
    rw [hg] at L hlt0 cel00 cel01 cel02 cel03 cel04 cel05 cel10 cel11 cel12 cel13 cel14 cel15 ⊢
    clear hg
    refine (works_any a2 _ h2.1 h2.2).mono ?_
    rintro e9 w3 ⟨gw, N0, N1, N2, N3, rfl, hvw, hNN, be⟩
    replace L := L.step be
    clear be
    clear cel00 cel01 cel02 cel03 cel04 cel05 cel10 cel11 cel12 cel13 cel14 cel15
    have HCE := Lib.hid (fun (wr : World) (hW : Below w3.heap.size w3 wr) (j : Nat) (hj : j < 4) => row4_cell (hvw.mono hW) hNN j hj)
    have hgw := hvw.lt
    have GA := Lib.hid (fun (wr : World) (hW : Below w3.heap.size w3 wr) => (L.getN (v := .slice A (zl m) c) (x := m.natAbs) (by simp)).mono hW)
    have GB := Lib.hid (fun (wr : World) (hW : Below w3.heap.size w3 wr) => (L.getN (v := .slice B (zl n) d) (x := n.natAbs) (by simp)).mono hW)
    have GC := Lib.hid (fun (wr : World) (hW : Below w3.heap.size w3 wr) => (L.getN (v := .slice A2 (zl m2) k2) (x := m2.natAbs) (by simp)).mono hW)
    have GD := Lib.hid (fun (wr : World) (hW : Below w3.heap.size w3 wr) => (L.getN (v := .slice A2 (zl m2) k2) (x := m2.natAbs) (by simp)).mono hW)
    have VX := Lib.hid (fun (wr : World) (hW : Below w3.heap.size w3 wr) => L.tl.b0.mono hW)
    have VY := Lib.hid (fun (wr : World) (hW : Below w3.heap.size w3 wr) => L.b0.mono hW)
    have hwV := L.below.size
    have hWW := Lib.hid (fun (wr : World) (hW : Below w3.heap.size w3 wr) => L.below.trans (hW.mono hwV))
    clear hNN hvw L
    go_wp2_with fail
    go_loopw [38] (fun i wr => ∃ t : Nat, i = .int .i64 (t : Int) ∧ t ≤ 4 ∧ Below w3.heap.size w3 wr) (fun i _ => 4 - (intOf i).toNat)
    case atStart => exact ⟨0, rfl, by omega, Below.refl _ _⟩
    case round =>
      obtain ⟨t, rfl, ht, hbe⟩ := hrel
      have hbs := hbe.size
      have hw9 := (hWW.out wr hbe).size
      have HW0 := Lib.hid (fun W (hW : Below wr.heap.size wr W) => (hWW.out wr hbe).trans (hW.mono hw9))
      rcases Nat.eq_or_lt_of_le ht with rfl | ht3
      · go_wp2_with fail
        go_ret
        exact ⟨rfl, HW0.out _ (Below.refl _ _)⟩
      · obtain ⟨N, hN, hNa, hNb⟩ := HCE.out wr hbe t ht3
        have hlt : (t : Int) < 4 := by omega
        have ht0 : (0 : Int) ≤ (t : Int) := by omega
        have L : Lq wr wr [(.slice A (zl m) c, m.natAbs), (.slice B (zl n) d, n.natAbs), (.slice A2 (zl m2) k2, m2.natAbs), (.slice A2 (zl m2) k2, m2.natAbs)] [] [] [(g + 1, 28, #[.bool (ng m2), .slice A2 (zl m2) k2, .int .i64 e2, .bool (ng m2), .slice A2 (zl m2) k2, .int .i64 e2]), (g, 28, #[.bool (ng m), .slice A (zl m) c, .int .i64 e, .bool (ng n), .slice B (zl n) d, .int .i64 f])] := ((((((Lq.mk0 wr).n (GD.out wr hbe)).n (GC.out wr hbe)).n (GB.out wr hbe)).n (GA.out wr hbe)).b (VX.out wr hbe)).b (VY.out wr hbe)
        (try go_wp2_with fail)
        replace L := L.drew
        have cel00 := L.b0.c60
        have f00 := L.b0.fr 0
        have cel01 := L.b0.c61
        have f01 := L.b0.fr 1
        have cel02 := L.b0.c62
        have f02 := L.b0.fr 2
        have cel03 := L.b0.c63
        have f03 := L.b0.fr 3
        have cel04 := L.b0.c64
        have f04 := L.b0.fr 4
        have cel05 := L.b0.c65
        have f05 := L.b0.fr 5
        have cel10 := L.tl.b0.c60
        have cel11 := L.tl.b0.c61
        have cel12 := L.tl.b0.c62
        have cel13 := L.tl.b0.c63
        have cel14 := L.tl.b0.c64
        have cel15 := L.tl.b0.c65
        go_region_held3 (fun w' => w'.cell? ⟨g + 1, 0, none⟩ = some (.bool (ng m2)) ∧ w'.cell? ⟨g + 1, 1, none⟩ = some (.slice A2 (zl m2) k2) ∧ w'.cell? ⟨g + 1, 2, none⟩ = some (.int .i64 e2) ∧ w'.cell? ⟨g + 1, 3, none⟩ = some (.bool (ng m2)) ∧ w'.cell? ⟨g + 1, 4, none⟩ = some (.slice A2 (zl m2) k2) ∧ w'.cell? ⟨g + 1, 5, none⟩ = some (.int .i64 e2)) (first | (with_reducible exact ⟨L.b0.c60, L.b0.c61, L.b0.c62, L.b0.c63, L.b0.c64, L.b0.c65⟩) | (have LN := L.var _ rfl 28 #[.bool (ng m2), .slice A2 (zl m2) k2, .int .i64 e2, .bool (ng m2), .slice A2 (zl m2) k2, .int .i64 e2, .bool (ng m2), .slice A5 (zl m2) c5, .int .i64 e2, .bool (ng n4), .slice B5 (zl n4) d5, .int .i64 f4, .bool (ng 0), .slice A6 (zl 0) c6, .int .i64 0, .bool (ng 0), .slice B6 (zl 0) d6, .int .i64 0] (plainJ_3 m2 e2 m2 e2 A2 A2 k2 k2 m2 e2 n4 f4 A5 B5 c5 d5 0 0 0 0 A6 B6 c6 d6); with_reducible exact ⟨LN.tl.b0.c60, LN.tl.b0.c61, LN.tl.b0.c62, LN.tl.b0.c63, LN.tl.b0.c64, LN.tl.b0.c65⟩) | exact ⟨L.b0.c60, L.b0.c61, L.b0.c62, L.b0.c63, L.b0.c64, L.b0.c65⟩) (first | (go_at_call 21; (with_reducible refine (HT1.out _ _ ?_).mono ?_); (· (refine isI_n (L.getN ?_) (L.getN ?_) <;> (repeat (first | (with_reducible exact List.mem_cons_self) | apply List.mem_cons_of_mem)))); rintro e wh ⟨vh, rfl, ii, be⟩; obtain ⟨A5, c5, B5, d5, rfl, ia, ib⟩ := ii.form; replace L := ((L.step be).n ib).n ia; clear be ii ia ib; (try (have x00 := L.b0.c60; have y00 := L.b0.fr 0; have x01 := L.b0.c61; have y01 := L.b0.fr 1; have x02 := L.b0.c62; have y02 := L.b0.fr 2; have x03 := L.b0.c63; have y03 := L.b0.fr 3; have x04 := L.b0.c64; have y04 := L.b0.fr 4; have x05 := L.b0.c65; have y05 := L.b0.fr 5))) | (go_at_call 22; (with_reducible refine (HO.out _).mono ?_); rintro e wh ⟨vh, rfl, ii, be⟩; obtain ⟨A6, c6, B6, d6, rfl, ia, ib⟩ := ii.form; replace L := ((L.step be).n ib).n ia; clear be ii ia ib; (try (have x00 := L.b0.c60; have y00 := L.b0.fr 0; have x01 := L.b0.c61; have y01 := L.b0.fr 1; have x02 := L.b0.c62; have y02 := L.b0.fr 2; have x03 := L.b0.c63; have y03 := L.b0.fr 3; have x04 := L.b0.c64; have y04 := L.b0.fr 4; have x05 := L.b0.c65; have y05 := L.b0.fr 5))))
        clear cel00 f00 cel01 f01 cel02 f02 cel03 f03 cel04 f04 cel05 f05 cel10 cel11 cel12 cel13 cel14 cel15
        go_wp2_with fail
        replace L := L.var _ rfl 28 #[.bool (ng m2), .slice A2 (zl m2) k2, .int .i64 e2, .bool (ng m2), .slice A2 (zl m2) k2, .int .i64 e2, .bool (ng m2), .slice A5 (zl m2) c5, .int .i64 e2, .bool (ng n4), .slice B5 (zl n4) d5, .int .i64 f4, .bool (ng 0), .slice A6 (zl 0) c6, .int .i64 0, .bool (ng 0), .slice B6 (zl 0) d6, .int .i64 0] (plainJ_3 m2 e2 m2 e2 A2 A2 k2 k2 m2 e2 n4 f4 A5 B5 c5 d5 0 0 0 0 A6 B6 c6 d6)
        obtain ⟨gl, hgl⟩ : ∃ g, wh.heap.size = g := ⟨_, rfl⟩
        rw [hgl] at L ⊢
        clear hgl
        obtain ⟨U, hU, L9⟩ := L.name
        rw [hU]
        clear hU L
        have L := L9
        clear L9
        have HVU := Lib.hid (hbe.trans (L.below.mono hbs))
        have HWU := Lib.hid (HW0.out _ L.below)
        have HYR := Lib.hid (fun (wr : World) (hW : Below U.heap.size U wr) (t : Nat) (ht : t < 3) => rowJ3_cell (L.b0.mono hW) ((L.getN (v := .slice A2 (zl m2) k2) (x := (m2 : Int).natAbs) (by simp)).mono hW) ((L.getN (v := .slice A2 (zl m2) k2) (x := (m2 : Int).natAbs) (by simp)).mono hW) ((L.getN (v := .slice A5 (zl m2) c5) (x := (m2 : Int).natAbs) (by simp)).mono hW) ((L.getN (v := .slice B5 (zl n4) d5) (x := (n4 : Int).natAbs) (by simp)).mono hW) ((L.getN (v := .slice A6 (zl 0) c6) (x := (0 : Int).natAbs) (by simp)).mono hW) ((L.getN (v := .slice B6 (zl 0) d6) (x := (0 : Int).natAbs) (by simp)).mono hW) HE1.out HE2.out HE3.out t ht)
        have LU := Lib.hid L
        clear L hbe hbs HW0 hw9
        go_loopw [48] (fun i wr => ∃ t : Nat, i = .int .i64 (t : Int) ∧ t ≤ 3 ∧ Below U.heap.size U wr) (fun i _ => 3 - (intOf i).toNat)
        case atStart => exact ⟨0, rfl, by omega, Below.refl _ _⟩
        case round =>
          obtain ⟨t2, rfl, ht2, hbe⟩ := hrel
          have hbs := hbe.size
          rcases Nat.eq_or_lt_of_le ht2 with rfl | ht4
          · go_wp2_with fail
            go_roundw
            case rel => exact ⟨t + 1, by go_num, by omega, HVU.out.trans (hbe.mono HVU.out.size)⟩
            case measure => simp [intOf]; omega
          · obtain ⟨m5, e5, n5, f5, A7, c7, B7, d7, y0, y1, y2, y3, y4, y5, i1, i2, hE⟩ := HYR.out wr hbe t2 ht4
            obtain ⟨M1, E1, N1, G1, r1, ⟨zm1, ze1⟩, ⟨zn1, zg1⟩, p1, q1⟩ := HDQ.out m5 e5 n5 f5 N hE hNa hNb
            have P1 := Lib.hid p1
            have Q1 := Lib.hid q1
            have S1 := Lib.hid (fun v u W h1 h2 => (show Calls Tryz.prog 20 #[v, u] W (RetB W true) from by have s := r10same_any M1 E1 N1 G1 M1 E1 N1 G1 v u W h1 h2 (by omega) (by omega) (by omega) (by omega) (by omega) (by omega) (by omega) (by omega); rwa [show ((decide ((E1 : Int) = E1) && decide ((M1 : Int) = M1)) && (decide ((G1 : Int) = G1) && decide ((N1 : Int) = N1))) = true from by simp] at s))
            have ne1 : (r1 != r1) = false := by simp
            have HW1 := Lib.hid (fun W (hW : Below wr.heap.size wr W) => HWU.out.trans ((hbe.trans (hW.mono hbs)).mono HWU.out.size))
            have hlt2 : (t2 : Int) < 3 := by omega
            have ht02 : (0 : Int) ≤ (t2 : Int) := by omega
            have hgW := (LU.out.step hbe).b0.lt
            have L := (((LU.out.step hbe).rebase.n i2).n i1).varI wr.heap.size rfl (ng m5) A7 (zl m5) c7 e5 (ng n5) B7 (zl n5) d7 f5
            clear i1 i2 hE p1 q1 zm1 ze1 zn1 zg1
            have cel00 := L.b0.c60
            have cel01 := L.b0.c61
            have cel02 := L.b0.c62
            have cel03 := L.b0.c63
            have cel04 := L.b0.c64
            have cel05 := L.b0.c65
            have cel30 := L.tl.tl.tl.b0.c60
            have cel31 := L.tl.tl.tl.b0.c61
            have cel32 := L.tl.tl.tl.b0.c62
            have cel33 := L.tl.tl.tl.b0.c63
            have cel34 := L.tl.tl.tl.b0.c64
            have cel35 := L.tl.tl.tl.b0.c65
            go_wp2_with fail
            clear y0 y1 y2 y3 y4 y5
            obtain ⟨gz, hg⟩ : ∃ g, wr.heap.size = g := ⟨_, rfl⟩
            rw [hg] at L hgW cel00 cel01 cel02 cel03 cel04 cel05 ⊢
            clear hg
            refine (P1.out _ _ _ (isI_n (m := m) (e := e) (n := n) (f := f) (s := .slice A (zl m) c) (t := .slice B (zl n) d) (L.getN (by simp)) (L.getN (by simp))) (isI_n (m := m5) (e := e5) (n := n5) (f := f5) (s := .slice A7 (zl m5) c7) (t := .slice B7 (zl n5) d7) (L.getN (by simp)) (L.getN (by simp))) (HW1.out _ L.below)).mono ?_
            rintro e w61 ⟨vv, rfl, ii, be⟩
            clear cel00 cel01 cel02 cel03 cel04 cel05 cel30 cel31 cel32 cel33 cel34 cel35
            obtain ⟨A10, c10, B10, d10, rfl, ia, ib⟩ := ii.form
            replace L := ((L.step be).n ib).n ia
            clear be ii ia ib
            have hlgv10 := L.b0.lt
            replace L := L.varI w61.heap.size rfl (ng M1) A10 (zl M1) c10 E1 (ng N1) B10 (zl N1) d10 G1
            have cel10 := L.tl.b0.c60
            have cel11 := L.tl.b0.c61
            have cel12 := L.tl.b0.c62
            have cel13 := L.tl.b0.c63
            have cel14 := L.tl.b0.c64
            have cel15 := L.tl.b0.c65
            have cel40 := L.tl.tl.tl.tl.b0.c60
            have cel41 := L.tl.tl.tl.tl.b0.c61
            have cel42 := L.tl.tl.tl.tl.b0.c62
            have cel43 := L.tl.tl.tl.tl.b0.c63
            have cel44 := L.tl.tl.tl.tl.b0.c64
            have cel45 := L.tl.tl.tl.tl.b0.c65
            go_wp2_with fail
            obtain ⟨gv1, hg⟩ : ∃ g, w61.heap.size = g := ⟨_, rfl⟩
            rw [hg] at L hlgv10 ⊢
            clear hg
            refine (Q1.out _ _ _ (isI_n (m := m) (e := e) (n := n) (f := f) (s := .slice A (zl m) c) (t := .slice B (zl n) d) (L.getN (by simp)) (L.getN (by simp))) (isI_n (m := m5) (e := e5) (n := n5) (f := f5) (s := .slice A7 (zl m5) c7) (t := .slice B7 (zl n5) d7) (L.getN (by simp)) (L.getN (by simp)))).mono ?_
            rintro e w62 ⟨vv, rfl, ii, be⟩
            clear cel10 cel11 cel12 cel13 cel14 cel15 cel40 cel41 cel42 cel43 cel44 cel45
            obtain ⟨A11, c11, B11, d11, rfl, ia, ib⟩ := ii.form
            replace L := ((L.step be).n ib).n ia
            clear be ii ia ib
            have hlgv20 := L.b0.lt
            replace L := L.varI w62.heap.size rfl (ng M1) A11 (zl M1) c11 E1 (ng N1) B11 (zl N1) d11 G1
            have cel00 := L.b0.c60
            have cel01 := L.b0.c61
            have cel02 := L.b0.c62
            have cel03 := L.b0.c63
            have cel04 := L.b0.c64
            have cel05 := L.b0.c65
            have cel10 := L.tl.b0.c60
            have cel11 := L.tl.b0.c61
            have cel12 := L.tl.b0.c62
            have cel13 := L.tl.b0.c63
            have cel14 := L.tl.b0.c64
            have cel15 := L.tl.b0.c65
            go_wp2_with fail
            obtain ⟨gv2, hg⟩ : ∃ g, w62.heap.size = g := ⟨_, rfl⟩
            rw [hg] at L hlgv20 cel00 cel01 cel02 cel03 cel04 cel05 ⊢
            clear hg
            refine (S1.out _ _ _ (isI_n (m := M1) (e := E1) (n := N1) (f := G1) (s := .slice A10 (zl M1) c10) (t := .slice B10 (zl N1) d10) (L.getN (by simp)) (L.getN (by simp))) (isI_n (m := M1) (e := E1) (n := N1) (f := G1) (s := .slice A11 (zl M1) c11) (t := .slice B11 (zl N1) d11) (L.getN (by simp)) (L.getN (by simp)))).mono ?_
            rintro e w63 ⟨rfl, be⟩
            clear cel00 cel01 cel02 cel03 cel04 cel05 cel10 cel11 cel12 cel13 cel14 cel15
            replace L := L.step be
            clear be
            go_wp2_with fail
            go_roundw
            case rel => exact ⟨t2 + 1, by go_num, by omega, hbe.trans (L.below.mono hbs)⟩
            case measure => simp [intOf]; omega

end Go.Proofs.YtoobcngbnjeddaaGreatDoor
