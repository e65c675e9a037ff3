/- The walk of RadicalPowers: whatever the input, the law returns true and turns nothing that was there. -/
import Derived.Test.YthfabjpbdgieoaaGreatDoorAwake12Z
import Derived.Test.YthfabjpbdgieoaaGreatDoorRdVZ
import Derived.Deep.RegionHeld3
import Derived.Deep.DrawnRows
import Derived.Deep.Cut
import Derived.Deep.CutRange
namespace Go.Proofs.YthfabjpbdgieoaaGreatDoor
open Go.RowKit
set_option linter.unusedVariables false
set_option linter.unusedSimpArgs false
set_option maxRecDepth 100000
attribute [local go_sem ↓] Go.wp_at_zero Go.wp_at_succ

set_option maxHeartbeats 128000000 in
theorem walk_RadicalPowers (b0 : Bool) (a0 : Option Addr) (len0 cap0 : Nat) (z0 : List Nat) (f0 : Int) (bb0 : Bool) (aa0 : Option Addr) (ll0 cc0 : Nat) (zz0 : List Nat) (ff0 : Int) (a1 : Int) (a2 : Int) (a3 : Bool) (w : World) (h0 : Sl w a0 len0 cap0 z0 ∧ -9223372036854775808 ≤ f0 ∧ f0 ≤ 9223372036854775807) (k0 : Sl w aa0 ll0 cc0 zz0 ∧ -9223372036854775808 ≤ ff0 ∧ ff0 ≤ 9223372036854775807) (h1 : -9223372036854775808 ≤ a1 ∧ a1 ≤ 9223372036854775807) (h2 : -9223372036854775808 ≤ a2 ∧ a2 ≤ 9223372036854775807)  (hT : Tab w) :
    Calls Tryz.prog 5 #[.agg #[.bool b0, .slice a0 len0 cap0, .int .i64 f0, .bool bb0, .slice aa0 ll0 cc0, .int .i64 ff0], .int .i64 a1, .int .i64 a2, .bool a3] w (fun e w' => e = .returned (.bool true) ∧ Below w.heap.size w w') := by
  have HT := Lib.hid (fun W (hW : Below w.heap.size w W) => hT.mono hW)
  clear hT
  go_enter Tryz.func5, Tryz.ntmps5
  go_wp2_with fail
  have L := ((Lq.mk0 w).varI (w.heap.size) (by simp) b0 a0 len0 cap0 f0 bb0 aa0 ll0 cc0 ff0)
  (try go_wp2_with fail)
  refine (awake12_any _ (HT.out _ L.below)).mono ?_
  rintro e9 w1 ⟨rfl, be⟩
  replace L := L.step be
  clear be
  have c00 := L.b0.c60
  have c01 := L.b0.c61
  have c02 := L.b0.c62
  have c03 := L.b0.c63
  have c04 := L.b0.c64
  have c05 := L.b0.c65
  (try go_wp2_with fail)
  refine (millI_any b0 bb0 z0 zz0 2 6 a0 aa0 len0 cap0 ll0 cc0 f0 ff0 _ (h0.1.mono L.below) (k0.1.mono L.below) (by omega) (by omega) h0.2.1 h0.2.2 k0.2.1 k0.2.2).mono ?_
  rintro e9 w2 ⟨vx, ok, m, e, n, f, rfl, ii, ⟨lm, ln⟩, he, hf, hv, le1, be⟩
  clear c00 c01 c02 c03 c04 c05
  obtain ⟨A, c, B, d, rfl, ia, ib⟩ := ii.form
  replace L := ((L.step be).n ib).n ia
  clear be ii ia ib
  have hlt0 := L.b0.lt
  replace L := L.varI w2.heap.size rfl (ng m) A (zl m) c e (ng n) B (zl n) d f
  cases ok
  · go_wp2_with fail
    go_ret
    exact ⟨rfl, L.below⟩
  obtain ⟨dv1, dv2⟩ := hv (by first | trivial | rfl)
  clear hv
  have x1 : Bd (dq m e) 198 := bd_dq (k := 3) (by omega) (by omega)
  have x2 : Bd (dq n f) 198 := bd_dq (k := 3) (by omega) (by omega)
  have heB : -64 ≤ e := by omega
  have y1 := pb_gen dv1 x1 heB
  have ht := fun v W h => (show Calls Tryz.prog 26 #[v, .int .i64 3] W (RetI6 W m e (thN m e n f 3) (thF m e n f 3)) from thin_any m e n f 3 (by omega) v W h (by omega) (by omega) (by omega) (by omega) le1 dv2)
  obtain ⟨r0, _, _, t1, t2, t3, t4, t5⟩ := thin_ok (j := 3) (by omega) (show zl m ≤ 6 by omega) (show zl n ≤ 6 by omega) (by omega) (by omega) le1 dv2
  have t6 : -64 ≤ thF m e n f 3 := by
    have := mkE_ge (addS m e 1 (-((3 : Nat) : Int))) (min e (-((3 : Nat) : Int)))
    unfold thF thE
    split <;> omega
  obtain ⟨n3, hn3⟩ : ∃ z, thN m e n f 3 = z := ⟨_, rfl⟩
  obtain ⟨f3, hf3⟩ : ∃ z, thF m e n f 3 = z := ⟨_, rfl⟩
  rw [hn3, hf3] at ht t3 t4 t5
  rw [hn3] at t1
  rw [hf3] at t2 t6
  have t7 := bd_between x1 x2 ((dcm_le _ _ _ _).1 t3) t4
  have HB1 := Lib.hid (show zl n ≤ 400 ∧ (-10000 ≤ f ∧ f ≤ 10000) ∧ Dv n f ∧ Bd (dq n f) 198 ∧ -64 ≤ f ∧ dcm m e n f ≤ 0 from ⟨by omega, by omega, dv2, x2, by omega, le1⟩)
  have HB2 := Lib.hid (show zl n3 ≤ 400 ∧ (-10000 ≤ f3 ∧ f3 ≤ 10000) ∧ Dv n3 f3 ∧ Bd (dq n3 f3) 198 ∧ -64 ≤ f3 ∧ dcm m e n3 f3 ≤ 0 from ⟨by omega, by omega, t5, t7, t6, t3⟩)
  have HBM := Lib.hid (show Dv m e ∧ Bd (dq m e) 198 ∧ -64 ≤ e from ⟨dv1, x1, heB⟩)
  have HTH := Lib.hid ht
  clear ht r0 t1 t2 t3 t4 t5 t6 t7 hn3 hf3 x1 x2 heB y1 lm ln he hf le1 dv1 dv2
  have cel00 := L.b0.c60
  have cel01 := L.b0.c61
  have cel02 := L.b0.c62
  have cel03 := L.b0.c63
  have cel04 := L.b0.c64
  have cel05 := L.b0.c65
  go_upto_if 32 with fail
  obtain ⟨g, hg⟩ : ∃ g, w2.heap.size = g := ⟨_, rfl⟩
  rw [hg] at L hlt0 cel00 cel01 cel02 cel03 cel04 cel05 ⊢
  clear hg
  clear cel00 cel01 cel02 cel03 cel04 cel05
  go_cut [32] from 33 to 34 (fun s32 wx => ∃ n' f' A' c' B' d', Lq w wx [(.slice A' (zl m) c', m.natAbs), (.slice B' (zl n') d', n'.natAbs)] [] [] [(g, 28, #[.bool (ng m), .slice A' (zl m) c', .int .i64 e, .bool (ng n'), .slice B' (zl n') d', .int .i64 f'])] ∧ Hid (zl n' ≤ 400 ∧ (-10000 ≤ f' ∧ f' ≤ 10000) ∧ Dv n' f' ∧ Bd (dq n' f') 198 ∧ -64 ≤ f' ∧ dcm m e n' f' ≤ 0))
  case first =>
    cases a3
    · go_wp2_with fail
      go_meet
      exact ⟨n, f, A, c, B, d, ((((Lq.mk0 w).step L.below).n (L.getN (v := .slice B (zl n) d) (x := n.natAbs) (by simp))).n (L.getN (v := .slice A (zl m) c) (x := m.natAbs) (by simp))).b L.b0, HB1⟩
    · skip
      have cel00 := L.b0.c60
      have f00 := L.b0.fr 0
      have cel01 := L.b0.c61
      have f01 := L.b0.fr 1
      have cel02 := L.b0.c62
      have f02 := L.b0.fr 2
      have cel03 := L.b0.c63
      have f03 := L.b0.fr 3
      have cel04 := L.b0.c64
      have f04 := L.b0.fr 4
      have cel05 := L.b0.c65
      have f05 := L.b0.fr 5
      go_wp2_with fail
      refine (HTH.out _ _ (isI_n (m := m) (e := e) (n := n) (f := f) (s := .slice A (zl m) c) (t := .slice B (zl n) d) (L.getN (by simp)) (L.getN (by simp)))).mono ?_
      rintro e w21 ⟨vv, rfl, ii, be⟩
      clear cel00 f00 cel01 f01 cel02 f02 cel03 f03 cel04 f04 cel05 f05
      obtain ⟨A5, c5, B5, d5, rfl, ia, ib⟩ := ii.form
      replace L := ((L.step be).n ib).n ia
      clear be ii ia ib
      have cel00 := L.b0.c60
      have f00 := L.b0.fr 0
      have cel01 := L.b0.c61
      have f01 := L.b0.fr 1
      have cel02 := L.b0.c62
      have f02 := L.b0.fr 2
      have cel03 := L.b0.c63
      have f03 := L.b0.fr 3
      have cel04 := L.b0.c64
      have f04 := L.b0.fr 4
      have cel05 := L.b0.c65
      have f05 := L.b0.fr 5
      have P := L.putI (by omega) (by first | (simp; done) | (simp; omega)) (ng m) A5 (zl m) c5 e (ng n3) B5 (zl n3) d5 f3
      unfold put6 at P
      go_wp2_with fail
      go_meet
      exact ⟨n3, f3, A5, c5, B5, d5, ((((Lq.mk0 w).step P.below).n (P.getN (v := .slice B5 (zl n3) d5) (x := n3.natAbs) (by simp))).n (P.getN (v := .slice A5 (zl m) c5) (x := m.natAbs) (by simp))).b P.b0, HB2⟩
  case rest =>
    clear L HB1 HB2 HTH
    obtain ⟨n, f, A, c, B, d, L, HBN⟩ := hcut
    generalize wc = wd at *
    obtain ⟨r1, hr1⟩ : ∃ r : Nat, a1 % 9 = (r : Int) := ⟨(a1 % 9).toNat, by omega⟩
    have o1 := fun W => mod_any a1 9 W (by omega) (by omega) h1.1 h1.2
    rw [hr1] at o1
    have br1 : r1 < 9 := by omega
    have MO1 := Lib.hid o1
    clear o1 hr1
    obtain ⟨r2, hr2⟩ : ∃ r : Nat, a1 % 129 = (r : Int) := ⟨(a1 % 129).toNat, by omega⟩
    have o2 := fun W => mod_any a1 129 W (by omega) (by omega) h1.1 h1.2
    rw [hr2] at o2
    have br2 : r2 < 129 := by omega
    have MO2 := Lib.hid o2
    clear o2 hr2
    obtain ⟨r3, hr3⟩ : ∃ r : Nat, a2 % 60 = (r : Int) := ⟨(a2 % 60).toNat, by omega⟩
    have o3 := fun W => mod_any a2 60 W (by omega) (by omega) h2.1 h2.2
    rw [hr3] at o3
    have br3 : r3 < 60 := by omega
    have MO3 := Lib.hid o3
    clear o3 hr3
    obtain ⟨K1, hK1⟩ : ∃ z, (r1 : Int) - 4 = z := ⟨_, rfl⟩
    obtain ⟨K2, hK2⟩ : ∃ z, (r2 : Int) - 64 = z := ⟨_, rfl⟩
    have ww1 : IntKind.i64.wrap ((r1 : Int) - 4) = K1 := by rw [IntKind.wrap_i64]; omega
    have ww2 : IntKind.i64.wrap ((r2 : Int) - 64) = K2 := by rw [IntKind.wrap_i64]; omega
    have hNN : ∀ N ∈ [K1, K2, a1], -9223372036854775808 ≤ N ∧ N ≤ 9223372036854775807 := fun N hN => by
      simp only [List.mem_cons, List.not_mem_nil, or_false] at hN
      rcases hN with rfl | rfl | rfl <;> omega
    have hNM : ∀ N ∈ [(r3 : Int), a2], -9223372036854775808 ≤ N ∧ N ≤ 9223372036854775807 := fun N hN => by
      simp only [List.mem_cons, List.not_mem_nil, or_false] at hN
      rcases hN with rfl | rfl <;> omega
    have HNM := Lib.hid hNM
    clear hK1 hK2 br1 br2 br3 hNM
    (try go_wp2_with fail)
    refine (MO1.out _).mono ?_
    rintro e9 w' ⟨rfl, rfl⟩
    (try go_wp2_with fail)
    refine (MO2.out _).mono ?_
    rintro e9 w' ⟨rfl, rfl⟩
    have hgl := L.b0.lt
    replace L := L.var wd.heap.size rfl 3 #[.int .i64 K1, .int .i64 K2, .int .i64 a1] (plainN_3 _ _ _)
    (try go_wp2_with fail)
    obtain ⟨gr, hgr⟩ : ∃ z, wd.heap.size = z := ⟨_, rfl⟩
    rw [hgr] at L hgl ⊢
    clear hgr ww1 ww2
    obtain ⟨V, hV, L9⟩ := L.name
    rw [hV]
    clear hV L
    have L := L9
    clear L9
    have HCE := Lib.hid (fun (wr : World) (hW : Below V.heap.size V wr) (j : Nat) (hj : j < 3) => rowN3_cell (L.b0.mono hW) hNN j hj)
    have LL := Lib.hid L
    clear L hNN
    go_loopw [44] (fun i wr => ∃ t : Nat, i = .int .i64 (t : Int) ∧ t ≤ 3 ∧ Below V.heap.size V wr) (fun i _ => 3 - (intOf i).toNat)
    case atStart => exact ⟨0, rfl, by omega, Below.refl _ _⟩
    case round =>
      obtain ⟨t, rfl, ht, hbe⟩ := hrel
      rcases Nat.eq_or_lt_of_le ht with rfl | ht3
      · go_wp2_with fail
        go_ret
        exact ⟨rfl, (LL.out.step hbe).below⟩
      · obtain ⟨K, hN, hKa, hKb⟩ := HCE.out wr hbe t ht3
        have hlt : (t : Int) < 3 := by omega
        have ht0 : (0 : Int) ≤ (t : Int) := by omega
        have L := (LL.out.step hbe).rebase
        go_wp2_with fail
        clear hN
        refine (MO3.out _).mono ?_
        rintro e9 w' ⟨rfl, rfl⟩
        have hgl2 := L.b0.lt
        replace L := L.var wr.heap.size rfl 3 #[.int .i64 (r3 : Int), .int .i64 a2] (plainN_2 _ _)
        (try go_wp2_with fail)
        obtain ⟨gs, hgs⟩ : ∃ z, wr.heap.size = z := ⟨_, rfl⟩
        have hbV := hbe
        have hbs0 := hbe.size
        rw [hgs] at L hgl2 ⊢
        clear hgs
        obtain ⟨U, hU, L9⟩ := L.name
        rw [hU]
        clear hU L
        have L := L9
        clear L9
        have HVU := Lib.hid (hbV.trans (L.below.mono hbs0))
        have HCI := Lib.hid (fun (wr : World) (hW : Below U.heap.size U wr) (j : Nat) (hj : j < 2) => rowN2_cell (L.b0.mono hW) HNM.out j hj)
        have LU := Lib.hid L
        clear L hbe hbs0 hbV
        go_loopw [53] (fun i wr => ∃ t : Nat, i = .int .i64 (t : Int) ∧ t ≤ 2 ∧ Below U.heap.size U wr) (fun i _ => 2 - (intOf i).toNat)
        case atStart => exact ⟨0, rfl, by omega, Below.refl _ _⟩
        case round =>
          obtain ⟨t2, rfl, ht2, hbe⟩ := hrel
          have hbs := hbe.size
          rcases Nat.eq_or_lt_of_le ht2 with rfl | ht4
          · go_wp2_with fail
            go_roundw
            case rel => exact ⟨t + 1, by go_num, by omega, HVU.out.trans (hbe.mono HVU.out.size)⟩
            case measure => simp [intOf]; omega
          · obtain ⟨N, hN, hNa, hNb⟩ := HCI.out wr hbe t2 ht4
            have hlt2 : (t2 : Int) < 2 := by omega
            have ht02 : (0 : Int) ≤ (t2 : Int) := by omega
            have hUw := LL.out.below.trans ((HVU.out.trans (hbe.mono HVU.out.size)).mono LL.out.below.size)
            have hUs := hUw.size
            obtain ⟨dv1, x1, he6⟩ := HBM.out
            obtain ⟨ln, hf, dv2, x2, hf6, le1⟩ := HBN.out
            obtain ⟨M1, E1, N1, G1, r1', ⟨zm1, ze1⟩, ⟨zn1, zg1⟩, p1, q1⟩ := pws_ok (j := K) (k := N) dv1 dv2 le1 x1 x2 (by omega) he6 hf6 (HT.out wr hUw) hNa hNb
            obtain ⟨M2, E2, N2, G2, r2', ⟨zm2, ze2⟩, ⟨zn2, zg2⟩, p2, q2⟩ := pws_ok (m := 0) (e := 0) (n := 0) (f := 0) (j := K) (k := N) (i := 0) dv_0 dv_0 (by decide) (bd_nn (dq_nn 0 (by decide)) (by rw [dq_zero]; exact Rat.le_of_lt (dq_pos _))) (bd_nn (dq_nn 0 (by decide)) (by rw [dq_zero]; exact Rat.le_of_lt (dq_pos _))) (by omega) (by omega) (by omega) (HT.out wr hUw) hNa hNb
            have o00 := fun W => of12_any 0 0 W (by omega) (by omega)
            rw [of_0.1, of_0.2] at o00
            have OO := Lib.hid o00
            have L := (LU.out.step hbe).rebase
            have P1 := Lib.hid p1
            have Q1 := Lib.hid q1
            have S1 := Lib.hid (fun v u W h1 h2 => (show Calls Tryz.prog 19 #[v, u] W (RetB W true) from by have s := r10same_any M1 E1 N1 G1 M1 E1 N1 G1 v u W h1 h2 (by omega) (by omega) (by omega) (by omega) (by omega) (by omega) (by omega) (by omega); rwa [show ((decide ((E1 : Int) = E1) && decide ((M1 : Int) = M1)) && (decide ((G1 : Int) = G1) && decide ((N1 : Int) = N1))) = true from by simp] at s))
            have ne1 : (r1' != r1') = false := by simp
            clear p1 q1 zm1 ze1 zn1 zg1
            have P2 := Lib.hid p2
            have Q2 := Lib.hid q2
            have S2 := Lib.hid (fun v u W h1 h2 => (show Calls Tryz.prog 19 #[v, u] W (RetB W true) from by have s := r10same_any M2 E2 N2 G2 M2 E2 N2 G2 v u W h1 h2 (by omega) (by omega) (by omega) (by omega) (by omega) (by omega) (by omega) (by omega); rwa [show ((decide ((E2 : Int) = E2) && decide ((M2 : Int) = M2)) && (decide ((G2 : Int) = G2) && decide ((N2 : Int) = N2))) = true from by simp] at s))
            have ne2 : (r2' != r2') = false := by simp
            clear p2 q2 zm2 ze2 zn2 zg2
            clear o00 hUw hUs dv1 x1 he6 ln hf dv2 x2 hf6 le1 hNa hNb
            have cel20 := L.tl.tl.b0.c60
            have cel21 := L.tl.tl.b0.c61
            have cel22 := L.tl.tl.b0.c62
            have cel23 := L.tl.tl.b0.c63
            have cel24 := L.tl.tl.b0.c64
            have cel25 := L.tl.tl.b0.c65
            go_wp2_with fail
            refine (P1.out _ _ (isI_n (m := m) (e := e) (n := n) (f := f) (s := .slice A (zl m) c) (t := .slice B (zl n) d) (L.getN (by simp)) (L.getN (by simp))) L.below).mono ?_
            rintro e w101 ⟨vv, rfl, ii, be⟩
            clear cel20 cel21 cel22 cel23 cel24 cel25
            obtain ⟨A11, c11, B11, d11, rfl, ia, ib⟩ := ii.form
            replace L := ((L.step be).n ib).n ia
            clear be ii ia ib
            have hlgv10 := L.b0.lt
            have hlgv11 := L.tl.b0.lt
            have hlgv12 := L.tl.tl.b0.lt
            replace L := L.varI w101.heap.size rfl (ng M1) A11 (zl M1) c11 E1 (ng N1) B11 (zl N1) d11 G1
            have cel30 := L.tl.tl.tl.b0.c60
            have cel31 := L.tl.tl.tl.b0.c61
            have cel32 := L.tl.tl.tl.b0.c62
            have cel33 := L.tl.tl.tl.b0.c63
            have cel34 := L.tl.tl.tl.b0.c64
            have cel35 := L.tl.tl.tl.b0.c65
            go_wp2_with fail
            obtain ⟨gv1, hg⟩ : ∃ g, w101.heap.size = g := ⟨_, rfl⟩
            rw [hg] at L hlgv10 hlgv11 hlgv12 ⊢
            clear hg
            refine (Q1.out _ _ (isI_n (m := m) (e := e) (n := n) (f := f) (s := .slice A (zl m) c) (t := .slice B (zl n) d) (L.getN (by simp)) (L.getN (by simp)))).mono ?_
            rintro e w102 ⟨vv, rfl, ii, be⟩
            clear cel30 cel31 cel32 cel33 cel34 cel35
            obtain ⟨A12, c12, B12, d12, rfl, ia, ib⟩ := ii.form
            replace L := ((L.step be).n ib).n ia
            clear be ii ia ib
            have hlgv20 := L.b0.lt
            replace L := L.varI w102.heap.size rfl (ng M1) A12 (zl M1) c12 E1 (ng N1) B12 (zl N1) d12 G1
            go_wp2_with fail
            obtain ⟨gv2, hg⟩ : ∃ g, w102.heap.size = g := ⟨_, rfl⟩
            rw [hg] at L hlgv20 ⊢
            clear hg
            refine (OO.out _).mono ?_
            rintro e w103 ⟨vz, rfl, ii, be⟩
            obtain ⟨A21, c21, B21, d21, rfl, ia, ib⟩ := ii.form
            replace L := ((L.step be).n ib).n ia
            clear ii be ia ib
            (try go_wp2_with fail)
            refine (P2.out _ _ (isI_n (m := 0) (e := 0) (n := 0) (f := 0) (s := .slice A21 (zl 0) c21) (t := .slice B21 (zl 0) d21) (L.getN (by simp)) (L.getN (by simp))) L.below).mono ?_
            rintro e w104 ⟨vv, rfl, ii, be⟩
            obtain ⟨A13, c13, B13, d13, rfl, ia, ib⟩ := ii.form
            replace L := ((L.step be).n ib).n ia
            clear be ii ia ib
            have hlgv30 := L.b0.lt
            replace L := L.varI w104.heap.size rfl (ng M2) A13 (zl M2) c13 E2 (ng N2) B13 (zl N2) d13 G2
            go_wp2_with fail
            obtain ⟨gv3, hg⟩ : ∃ g, w104.heap.size = g := ⟨_, rfl⟩
            rw [hg] at L hlgv30 ⊢
            clear hg
            refine (OO.out _).mono ?_
            rintro e w105 ⟨vz, rfl, ii, be⟩
            obtain ⟨A22, c22, B22, d22, rfl, ia, ib⟩ := ii.form
            replace L := ((L.step be).n ib).n ia
            clear ii be ia ib
            (try go_wp2_with fail)
            refine (Q2.out _ _ (isI_n (m := 0) (e := 0) (n := 0) (f := 0) (s := .slice A22 (zl 0) c22) (t := .slice B22 (zl 0) d22) (L.getN (by simp)) (L.getN (by simp)))).mono ?_
            rintro e w106 ⟨vv, rfl, ii, be⟩
            obtain ⟨A14, c14, B14, d14, rfl, ia, ib⟩ := ii.form
            replace L := ((L.step be).n ib).n ia
            clear be ii ia ib
            have hlgv40 := L.b0.lt
            replace L := L.varI w106.heap.size rfl (ng M2) A14 (zl M2) c14 E2 (ng N2) B14 (zl N2) d14 G2
            have cel20 := L.tl.tl.b0.c60
            have cel21 := L.tl.tl.b0.c61
            have cel22 := L.tl.tl.b0.c62
            have cel23 := L.tl.tl.b0.c63
            have cel24 := L.tl.tl.b0.c64
            have cel25 := L.tl.tl.b0.c65
            have cel30 := L.tl.tl.tl.b0.c60
            have cel31 := L.tl.tl.tl.b0.c61
            have cel32 := L.tl.tl.tl.b0.c62
            have cel33 := L.tl.tl.tl.b0.c63
            have cel34 := L.tl.tl.tl.b0.c64
            have cel35 := L.tl.tl.tl.b0.c65
            go_wp2_with fail
            obtain ⟨gv4, hg⟩ : ∃ g, w106.heap.size = g := ⟨_, rfl⟩
            rw [hg] at L hlgv40 ⊢
            clear hg
            refine (S1.out _ _ _ (isI_n (m := M1) (e := E1) (n := N1) (f := G1) (s := .slice A11 (zl M1) c11) (t := .slice B11 (zl N1) d11) (L.getN (by simp)) (L.getN (by simp))) (isI_n (m := M1) (e := E1) (n := N1) (f := G1) (s := .slice A12 (zl M1) c12) (t := .slice B12 (zl N1) d12) (L.getN (by simp)) (L.getN (by simp)))).mono ?_
            rintro e w107 ⟨rfl, be⟩
            clear cel20 cel21 cel22 cel23 cel24 cel25 cel30 cel31 cel32 cel33 cel34 cel35
            replace L := L.step be
            clear be
            have cel00 := L.b0.c60
            have cel01 := L.b0.c61
            have cel02 := L.b0.c62
            have cel03 := L.b0.c63
            have cel04 := L.b0.c64
            have cel05 := L.b0.c65
            have cel10 := L.tl.b0.c60
            have cel11 := L.tl.b0.c61
            have cel12 := L.tl.b0.c62
            have cel13 := L.tl.b0.c63
            have cel14 := L.tl.b0.c64
            have cel15 := L.tl.b0.c65
            go_wp2_with fail
            refine (S2.out _ _ _ (isI_n (m := M2) (e := E2) (n := N2) (f := G2) (s := .slice A13 (zl M2) c13) (t := .slice B13 (zl N2) d13) (L.getN (by simp)) (L.getN (by simp))) (isI_n (m := M2) (e := E2) (n := N2) (f := G2) (s := .slice A14 (zl M2) c14) (t := .slice B14 (zl N2) d14) (L.getN (by simp)) (L.getN (by simp)))).mono ?_
            rintro e w108 ⟨rfl, be⟩
            clear cel00 cel01 cel02 cel03 cel04 cel05 cel10 cel11 cel12 cel13 cel14 cel15
            replace L := L.step be
            clear be
            go_wp2_with fail
            go_roundw
            case rel => exact ⟨t2 + 1, by go_num, by omega, hbe.trans (L.below.mono hbs)⟩
            case measure => simp [intOf]; omega

end Go.Proofs.YthfabjpbdgieoaaGreatDoor
