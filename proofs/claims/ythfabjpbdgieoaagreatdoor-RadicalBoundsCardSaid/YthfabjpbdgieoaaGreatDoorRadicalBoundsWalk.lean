/- The walk of RadicalBounds: whatever the input, the law returns true and turns nothing that was there. -/
import Derived.Test.YthfabjpbdgieoaaGreatDoorAwake12
import Derived.Test.YthfabjpbdgieoaaGreatDoorRdU
import Derived.Deep.RegionHeld3
import Derived.Deep.DrawnRows
import Derived.Deep.Cut
import Derived.Deep.CutRange
namespace Go.Proofs.YthfabjpbdgieoaaGreatDoor
open Go.RowKit
set_option linter.unusedVariables false
set_option linter.unusedSimpArgs false
set_option maxRecDepth 100000
attribute [local go_sem ↓] Go.wp_at_zero Go.wp_at_succ

theorem isD_b8 {w : World} {s : Value} {m e : Int} {b : Bool} (hb : ng m = b) (h : IsN w s m.natAbs) : IsD w (.agg #[.bool b, s, .int .i64 e]) m e := by
  subst hb; exact isD_n h
theorem mkE_ge8 (C e : Int) : min e 0 ≤ mkE C e := by
  unfold mkE oddE
  (repeat' split) <;> omega
set_option maxHeartbeats 64000000 in
theorem walk_RadicalBounds (b0 : Bool) (a0 : Option Addr) (len0 cap0 : Nat) (z0 : List Nat) (f0 : Int) (a1 : Int) (a2 : Bool) (w : World) (h0 : Sl w a0 len0 cap0 z0) (u0 : -9223372036854775808 ≤ f0) (t0 : f0 ≤ 9223372036854775807) (h1 : -9223372036854775808 ≤ a1 ∧ a1 ≤ 9223372036854775807)  (hT : Tab w) :
    Calls Tryz.prog 4 #[.agg #[.bool b0, .slice a0 len0 cap0, .int .i64 f0], .int .i64 a1, .bool a2] w (fun e w' => e = .returned (.bool true) ∧ Below w.heap.size w w') := by
  have HT := Lib.hid (fun W (hW : Below w.heap.size w W) => hT.mono hW)
  clear hT
  go_enter Tryz.func4, Tryz.ntmps4
  go_wp2_with fail
  have L := ((Lq.mk0 w).varD (w.heap.size) (by simp) b0 a0 len0 cap0 f0)
  (try go_wp2_with fail)
  refine (awake12_any _ (HT.out _ L.below)).mono ?_
  rintro e9 w1 ⟨rfl, be⟩
  replace L := L.step be
  clear be
  have c00 := L.b0.c30
  have c01 := L.b0.c31
  have c02 := L.b0.c32
  (try go_wp2_with fail)
  refine (millD_any b0 z0 3 40 a0 len0 cap0 f0 _ (h0.mono L.below) (by omega) (by omega) u0 t0).mono ?_
  rintro e w2 ⟨v1, ok, m, e, rfl, id, lm, he1, he2, dvm, be⟩
  clear c00 c01 c02
  obtain ⟨A, c, rfl, _, in9⟩ := id.form
  have in8 := in9
  rw [← Int.natAbs_natCast m.natAbs, ← zl_abs] at in8
  replace L := ((L.step be).n in9).n in8
  clear be id in9 in8
  have hlg := L.b0.lt
  have L0 := L
  replace L := L.varD w2.heap.size rfl (ng m) A (zl m) c e
  cases ok
  · go_wp2_with fail
    go_ret
    exact ⟨rfl, L.below⟩
  obtain dvm2 := dvm (by first | trivial | rfl)
  have dva : Dv ((m.natAbs : Nat) : Int) e := by
    rcases Int.le_total 0 m with h | h
    · rw [show ((m.natAbs : Nat) : Int) = m by omega]; exact dvm2
    · rw [show ((m.natAbs : Nat) : Int) = -m by omega]; exact dv_opp dvm2
  have za : zl ((m.natAbs : Nat) : Int) ≤ 4 := by rw [zl_abs]; omega
  have na : 0 ≤ ((m.natAbs : Nat) : Int) := Int.natCast_nonneg _
  have LA := (L0.varD w2.heap.size rfl false A (zl m) c e).abs
  clear L0 dvm dvm2
  have cel00 := L.b0.c30
  have f00 := L.b0.fr 0
  have cel01 := L.b0.c31
  have f01 := L.b0.fr 1
  have cel02 := L.b0.c32
  have f02 := L.b0.fr 2
  go_upto_if 32 with fail
  clear cel00 f00 cel01 f01 cel02 f02
  replace L := LA
  clear LA
  obtain ⟨a, ha⟩ : ∃ z, ((m.natAbs : Nat) : Int) = z := ⟨_, rfl⟩
  rw [ha] at L za na dva
  clear ha
  obtain ⟨g, hg⟩ : ∃ g, w2.heap.size = g := ⟨_, rfl⟩
  rw [hg] at L hlg ⊢
  clear hg
  obtain ⟨V, hV, L9⟩ := L.name
  rw [hV]
  clear hV L
  have L := L9
  clear L9
  obtain ⟨s1, s2, s3, s4, s5⟩ := mk_square (M := a) (E := e) (by omega) (by omega)
  have t1 := zl_mul a a
  have t2 := zl_mk (a * a) (e + e)
  have t3 := mkE_le (m := a * a) (e := e + e) (K := 336) (by omega) (by omega)
  have t4 := mkE_ge8 (a * a) (e + e)
  have t5 := mk_nn s1 (Int.mul_nonneg na na)
  have gm := fun v u W h1 h2 => rmul8_any a e a e v u W h1 h2 (by omega) (by omega) (by omega) (by omega)
  rw [s1] at gm
  obtain ⟨S, hS⟩ : ∃ z, mkM (a * a) (e + e) = z := ⟨_, rfl⟩
  obtain ⟨F, hF⟩ : ∃ z, mkE (a * a) (e + e) = z := ⟨_, rfl⟩
  rw [hS, hF] at gm s5
  rw [hS] at t2 t5
  rw [hF] at t3 t4
  have HM := Lib.hid gm
  have HB1 := Lib.hid (show zl a ≤ 12 ∧ (-100 ≤ e ∧ e ≤ 1000) ∧ 0 ≤ a ∧ Dv a e from ⟨by omega, by omega, na, dva⟩)
  have HB2 := Lib.hid (show zl S ≤ 12 ∧ (-100 ≤ F ∧ F ≤ 1000) ∧ 0 ≤ S ∧ Dv S F from ⟨by omega, by omega, t5, s5⟩)
  clear gm s1 s2 s3 s4 s5 t1 t2 t3 t4 t5 hS hF za na dva lm he1 he2
  go_cut [32] from 33 to 38 (fun s32 wx => ∃ m' e' A' c', Lq w wx [(.slice A' (zl m') c', m'.natAbs)] [] [] [(g, 26, #[.bool (ng m'), .slice A' (zl m') c', .int .i64 e'])] ∧ Hid (zl m' ≤ 12 ∧ (-100 ≤ e' ∧ e' ≤ 1000) ∧ 0 ≤ m' ∧ Dv m' e'))
  case first =>
    cases a2
    · go_wp2_with fail
      go_meet
      exact ⟨a, e, A, c, (((Lq.mk0 w).step L.below).n (L.getN (v := .slice A (zl a) c) (x := a.natAbs) (by simp))).b L.b0, HB1⟩
    · skip
      have cel00 := L.b0.c30
      have f00 := L.b0.fr 0
      have cel01 := L.b0.c31
      have f01 := L.b0.fr 1
      have cel02 := L.b0.c32
      have f02 := L.b0.fr 2
      go_wp2_with fail
      refine (HM.out _ _ _ (isD_n (m := a) (e := e) (s := .slice A (zl a) c) (L.getN (by simp))) (isD_n (m := a) (e := e) (s := .slice A (zl a) c) (L.getN (by simp)))).mono ?_
      rintro e w21 ⟨vv, rfl, id, be⟩
      clear cel00 f00 cel01 f01 cel02 f02
      obtain ⟨A5, c5, rfl, _, in9⟩ := id.form
      replace L := (L.step be).n in9
      clear be id in9
      have cel00 := L.b0.c30
      have f00 := L.b0.fr 0
      have cel01 := L.b0.c31
      have f01 := L.b0.fr 1
      have cel02 := L.b0.c32
      have f02 := L.b0.fr 2
      have P := L.putD (by omega) (by first | (simp; done) | (simp; omega)) (ng S) A5 (zl S) c5 F
      unfold put3 at P
      go_wp2_with fail
      go_meet
      exact ⟨S, F, A5, c5, (((Lq.mk0 w).step P.below).n (P.getN (v := .slice A5 (zl S) c5) (x := S.natAbs) (by simp))).b P.b0, HB2⟩
  case rest =>
    clear L HB1 HB2 HM
    obtain ⟨m, e, A, c, L, HBD⟩ := hcut
    generalize wc = wd at *
    obtain ⟨lm, he, nm, dvm⟩ := HBD.out
    obtain ⟨r1, hr1⟩ : ∃ r : Nat, a1 % 120 = (r : Int) := ⟨(a1 % 120).toNat, by omega⟩
    have o1 := fun W => mod_any a1 120 W (by omega) (by omega) h1.1 h1.2
    rw [hr1] at o1
    have br1 : r1 < 120 := by omega
    have MO1 := Lib.hid o1
    clear o1 hr1
    obtain ⟨N, G, N2, G2, U, H, S, F, S2, F2, c1, c2, sx, p1, p2, p3, p4, p5, p6, hng, p7, p8, k1, p9, k2, p10, hsx⟩ := bnd_ok (k := (r1 : Int)) lm he nm dvm (by omega) (by omega)
    obtain ⟨j, hj⟩ : ∃ z, -(r1 : Int) = z := ⟨_, rfl⟩
    rw [hj] at p3 p4
    have HNG := Lib.hid hng
    have b1 : decide (0 < c1) = false := decide_eq_false k1
    have b2 : decide (c2 ≤ 0) = false := decide_eq_false k2
    rcases hsx with ⟨hs1, hs2, hs3⟩ | ⟨hs1, hs2, hs3⟩
    · rw [hs2, hs3] at p2
      subst hs1
      clear hs2 hs3
      have P1 := Lib.hid p1
      have P2 := Lib.hid p2
      have P3 := Lib.hid p3
      have P4 := Lib.hid p4
      have P5 := Lib.hid p5
      have P6 := Lib.hid p6
      have P7 := Lib.hid p7
      have P8 := Lib.hid p8
      have P9 := Lib.hid p9
      have P10 := Lib.hid p10
      have S3 := Lib.hid (fun v u W h1 h2 => (show Calls Tryz.prog 20 #[v, u] W (RetB W true) from by have s := same8_any N G N G v u W h1 h2; rwa [show (decide ((G : Int) = G) && decide ((N : Int) = N)) = true from by simp] at s))
      clear p1 p2 p3 p4 p5 p6 p7 p8 p9 p10 hng k1 k2 hj br1 lm he nm dvm HBD
      (try go_wp2_with fail)
      refine (MO1.out _).mono ?_
      rintro e9 w' ⟨rfl, rfl⟩
      have cel00 := L.b0.c30
      have cel01 := L.b0.c31
      have cel02 := L.b0.c32
      go_wp2_with fail
      have hld := L.b0.lt
      refine (P1.out _ _ (isD_n (m := m) (e := e) (s := .slice A (zl m) c) (L.getN (by simp))) (HT.out _ L.below)).mono ?_
      rintro e w41 ⟨vv, rfl, id, be⟩
      clear cel00 cel01 cel02
      obtain ⟨A12, c12, rfl, _, in9⟩ := id.form
      replace L := (L.step be).n in9
      clear be id in9
      have hlgv10 := L.b0.lt
      replace L := L.varD w41.heap.size rfl (ng N) A12 (zl N) c12 G
      have cel10 := L.tl.b0.c30
      have cel11 := L.tl.b0.c31
      have cel12 := L.tl.b0.c32
      go_wp2_with fail
      obtain ⟨gv1, hg⟩ : ∃ g, w41.heap.size = g := ⟨_, rfl⟩
      rw [hg] at L hlgv10 ⊢
      clear hg
      refine (P2.out _ _ (isD_n (m := m) (e := e) (s := .slice A (zl m) c) (L.getN (by simp))) (HT.out _ L.below)).mono ?_
      rintro e w42 ⟨vv, rfl, id, be⟩
      clear cel10 cel11 cel12
      obtain ⟨A13, c13, rfl, _, in9⟩ := id.form
      replace L := (L.step be).n in9
      clear be id in9
      have hlgv20 := L.b0.lt
      replace L := L.varD w42.heap.size rfl (ng N) A13 (zl N) c13 G
      go_wp2_with fail
      obtain ⟨gv2, hg⟩ : ∃ g, w42.heap.size = g := ⟨_, rfl⟩
      rw [hg] at L hlgv20 ⊢
      clear hg
      refine (P3.out _).mono ?_
      rintro e w43 ⟨vv, rfl, id, be⟩
      obtain ⟨A14, c14, rfl, _, in9⟩ := id.form
      replace L := (L.step be).n in9
      clear be id in9
      have hlgv30 := L.b0.lt
      have hlgv31 := L.tl.b0.lt
      replace L := L.varD w43.heap.size rfl (ng 1) A14 (zl 1) c14 j
      have cel00 := L.b0.c30
      have cel01 := L.b0.c31
      have cel02 := L.b0.c32
      have cel20 := L.tl.tl.b0.c30
      have cel21 := L.tl.tl.b0.c31
      have cel22 := L.tl.tl.b0.c32
      go_wp2_with fail
      obtain ⟨gv3, hg⟩ : ∃ g, w43.heap.size = g := ⟨_, rfl⟩
      rw [hg] at L hlgv30 hlgv31 cel00 cel01 cel02 ⊢
      clear hg
      refine (P4.out _ _ _ (isD_n (m := N) (e := G) (s := .slice A12 (zl N) c12) (L.getN (by simp))) (isD_n (m := 1) (e := j) (s := .slice A14 (zl 1) c14) (L.getN (by simp)))).mono ?_
      rintro e w44 ⟨vv, rfl, id, be⟩
      clear cel00 cel01 cel02 cel20 cel21 cel22
      obtain ⟨A15, c15, rfl, _, in9⟩ := id.form
      replace L := (L.step be).n in9
      clear be id in9
      have hlgv40 := L.b0.lt
      replace L := L.varD w44.heap.size rfl (ng N2) A15 (zl N2) c15 G2
      have cel30 := L.tl.tl.tl.b0.c30
      have cel31 := L.tl.tl.tl.b0.c31
      have cel32 := L.tl.tl.tl.b0.c32
      go_wp2_with fail
      obtain ⟨gv4, hg⟩ : ∃ g, w44.heap.size = g := ⟨_, rfl⟩
      rw [hg] at L hlgv40 ⊢
      clear hg
      refine (P5.out _ _ _ (isD_n (m := N) (e := G) (s := .slice A12 (zl N) c12) (L.getN (by simp))) (isD_n (m := N) (e := G) (s := .slice A12 (zl N) c12) (L.getN (by simp)))).mono ?_
      rintro e w45 ⟨vv, rfl, id, be⟩
      clear cel30 cel31 cel32
      obtain ⟨A16, c16, rfl, _, in9⟩ := id.form
      replace L := (L.step be).n in9
      clear be id in9
      have hlgv50 := L.b0.lt
      replace L := L.varD w45.heap.size rfl (ng S) A16 (zl S) c16 F
      have cel10 := L.tl.b0.c30
      have cel11 := L.tl.b0.c31
      have cel12 := L.tl.b0.c32
      go_wp2_with fail
      obtain ⟨gv5, hg⟩ : ∃ g, w45.heap.size = g := ⟨_, rfl⟩
      rw [hg] at L hlgv50 ⊢
      clear hg
      refine (P6.out _ _ _ (isD_n (m := N2) (e := G2) (s := .slice A15 (zl N2) c15) (L.getN (by simp))) (isD_n (m := N2) (e := G2) (s := .slice A15 (zl N2) c15) (L.getN (by simp)))).mono ?_
      rintro e w46 ⟨vv, rfl, id, be⟩
      clear cel10 cel11 cel12
      obtain ⟨A17, c17, rfl, _, in9⟩ := id.form
      replace L := (L.step be).n in9
      clear be id in9
      have hlgv6 := L.b0.lt
      have hlgv61 := L.tl.tl.tl.tl.b0.lt
      replace L := L.varD w46.heap.size rfl (ng S2) A17 (zl S2) c17 F2
      have cel00 := L.b0.c30
      have cel01 := L.b0.c31
      have cel02 := L.b0.c32
      have cz0 := (L.tl.tl.tl.tl.tl.b0.c30).trans (congrArg (fun b => some (Value.bool b)) HNG.out)
      have cz1 := L.tl.tl.tl.tl.tl.b0.c31
      have cz2 := L.tl.tl.tl.tl.tl.b0.c32
      go_wp2_with fail
      clear cz0 cz1 cz2
      obtain ⟨gv6, hg⟩ : ∃ g, w46.heap.size = g := ⟨_, rfl⟩
      rw [hg] at L hlgv6 hlgv61 cel00 cel01 cel02 ⊢
      clear hg
      refine (P7.out _ _ (isD_b8 (m := N) (e := G) HNG.out (L.getN (v := .slice A12 (zl N) c12) (x := N.natAbs) (by simp)))).mono ?_
      rintro e w47 ⟨rfl, be⟩
      clear cel00 cel01 cel02
      replace L := L.step be
      clear be
      have cel10 := L.tl.b0.c30
      have cel11 := L.tl.b0.c31
      have cel12 := L.tl.b0.c32
      have cel60 := L.tl.tl.tl.tl.tl.tl.b0.c30
      have cel61 := L.tl.tl.tl.tl.tl.tl.b0.c31
      have cel62 := L.tl.tl.tl.tl.tl.tl.b0.c32
      go_wp2_with fail
      refine (P8.out _ _ _ (isD_n (m := S) (e := F) (s := .slice A16 (zl S) c16) (L.getN (by simp))) (isD_n (m := m) (e := e) (s := .slice A (zl m) c) (L.getN (by simp)))).mono ?_
      rintro e w48 ⟨rfl, be⟩
      clear cel10 cel11 cel12 cel60 cel61 cel62
      replace L := L.step be
      clear be
      have cel00 := L.b0.c30
      have cel01 := L.b0.c31
      have cel02 := L.b0.c32
      have cel60 := L.tl.tl.tl.tl.tl.tl.b0.c30
      have cel61 := L.tl.tl.tl.tl.tl.tl.b0.c31
      have cel62 := L.tl.tl.tl.tl.tl.tl.b0.c32
      go_wp2_with fail
      refine (P9.out _ _ _ (isD_n (m := S2) (e := F2) (s := .slice A17 (zl S2) c17) (L.getN (by simp))) (isD_n (m := m) (e := e) (s := .slice A (zl m) c) (L.getN (by simp)))).mono ?_
      rintro e w49 ⟨rfl, be⟩
      clear cel00 cel01 cel02 cel60 cel61 cel62
      replace L := L.step be
      clear be
      have cel10 := L.tl.b0.c30
      have cel11 := L.tl.b0.c31
      have cel12 := L.tl.b0.c32
      have cel60 := L.tl.tl.tl.tl.tl.tl.b0.c30
      have cel61 := L.tl.tl.tl.tl.tl.tl.b0.c31
      have cel62 := L.tl.tl.tl.tl.tl.tl.b0.c32
      go_wp2_with fail
      refine (P10.out _ _ _ (isD_n (m := S) (e := F) (s := .slice A16 (zl S) c16) (L.getN (by simp))) (isD_n (m := m) (e := e) (s := .slice A (zl m) c) (L.getN (by simp)))).mono ?_
      rintro e w50 ⟨rfl, be⟩
      clear cel10 cel11 cel12 cel60 cel61 cel62
      replace L := L.step be
      clear be
      have cel40 := L.tl.tl.tl.tl.b0.c30
      have cel41 := L.tl.tl.tl.tl.b0.c31
      have cel42 := L.tl.tl.tl.tl.b0.c32
      have cel50 := L.tl.tl.tl.tl.tl.b0.c30
      have cel51 := L.tl.tl.tl.tl.tl.b0.c31
      have cel52 := L.tl.tl.tl.tl.tl.b0.c32
      go_wp2_with fail
      refine (S3.out _ _ _ (isD_n (m := N) (e := G) (s := .slice A12 (zl N) c12) (L.getN (by simp))) (isD_n (m := N) (e := G) (s := .slice A13 (zl N) c13) (L.getN (by simp)))).mono ?_
      rintro e w51 ⟨rfl, be⟩
      clear cel40 cel41 cel42 cel50 cel51 cel52
      replace L := L.step be
      clear be
      go_wp2_with fail
      go_ret
      exact ⟨rfl, L.below⟩
    · rw [hs2, hs3] at p2
      subst hs1
      clear hs2 hs3
      have P1 := Lib.hid p1
      have P2 := Lib.hid p2
      have P3 := Lib.hid p3
      have P4 := Lib.hid p4
      have P5 := Lib.hid p5
      have P6 := Lib.hid p6
      have P7 := Lib.hid p7
      have P8 := Lib.hid p8
      have P9 := Lib.hid p9
      have P10 := Lib.hid p10
      have S3 := Lib.hid (fun v u W h1 h2 => (show Calls Tryz.prog 20 #[v, u] W (RetB W true) from by have s := same8_any N2 G2 N2 G2 v u W h1 h2; rwa [show (decide ((G2 : Int) = G2) && decide ((N2 : Int) = N2)) = true from by simp] at s))
      clear p1 p2 p3 p4 p5 p6 p7 p8 p9 p10 hng k1 k2 hj br1 lm he nm dvm HBD
      (try go_wp2_with fail)
      refine (MO1.out _).mono ?_
      rintro e9 w' ⟨rfl, rfl⟩
      have cel00 := L.b0.c30
      have cel01 := L.b0.c31
      have cel02 := L.b0.c32
      go_wp2_with fail
      have hld := L.b0.lt
      refine (P1.out _ _ (isD_n (m := m) (e := e) (s := .slice A (zl m) c) (L.getN (by simp))) (HT.out _ L.below)).mono ?_
      rintro e w41 ⟨vv, rfl, id, be⟩
      clear cel00 cel01 cel02
      obtain ⟨A12, c12, rfl, _, in9⟩ := id.form
      replace L := (L.step be).n in9
      clear be id in9
      have hlgv10 := L.b0.lt
      replace L := L.varD w41.heap.size rfl (ng N) A12 (zl N) c12 G
      have cel10 := L.tl.b0.c30
      have cel11 := L.tl.b0.c31
      have cel12 := L.tl.b0.c32
      go_wp2_with fail
      obtain ⟨gv1, hg⟩ : ∃ g, w41.heap.size = g := ⟨_, rfl⟩
      rw [hg] at L hlgv10 ⊢
      clear hg
      refine (P2.out _ _ (isD_n (m := m) (e := e) (s := .slice A (zl m) c) (L.getN (by simp))) (HT.out _ L.below)).mono ?_
      rintro e w42 ⟨vv, rfl, id, be⟩
      clear cel10 cel11 cel12
      obtain ⟨A13, c13, rfl, _, in9⟩ := id.form
      replace L := (L.step be).n in9
      clear be id in9
      have hlgv20 := L.b0.lt
      replace L := L.varD w42.heap.size rfl (ng N2) A13 (zl N2) c13 G2
      go_wp2_with fail
      obtain ⟨gv2, hg⟩ : ∃ g, w42.heap.size = g := ⟨_, rfl⟩
      rw [hg] at L hlgv20 ⊢
      clear hg
      refine (P3.out _).mono ?_
      rintro e w43 ⟨vv, rfl, id, be⟩
      obtain ⟨A14, c14, rfl, _, in9⟩ := id.form
      replace L := (L.step be).n in9
      clear be id in9
      have hlgv30 := L.b0.lt
      have hlgv31 := L.tl.b0.lt
      replace L := L.varD w43.heap.size rfl (ng 1) A14 (zl 1) c14 j
      have cel00 := L.b0.c30
      have cel01 := L.b0.c31
      have cel02 := L.b0.c32
      have cel20 := L.tl.tl.b0.c30
      have cel21 := L.tl.tl.b0.c31
      have cel22 := L.tl.tl.b0.c32
      go_wp2_with fail
      obtain ⟨gv3, hg⟩ : ∃ g, w43.heap.size = g := ⟨_, rfl⟩
      rw [hg] at L hlgv30 hlgv31 cel00 cel01 cel02 ⊢
      clear hg
      refine (P4.out _ _ _ (isD_n (m := N) (e := G) (s := .slice A12 (zl N) c12) (L.getN (by simp))) (isD_n (m := 1) (e := j) (s := .slice A14 (zl 1) c14) (L.getN (by simp)))).mono ?_
      rintro e w44 ⟨vv, rfl, id, be⟩
      clear cel00 cel01 cel02 cel20 cel21 cel22
      obtain ⟨A15, c15, rfl, _, in9⟩ := id.form
      replace L := (L.step be).n in9
      clear be id in9
      have hlgv40 := L.b0.lt
      replace L := L.varD w44.heap.size rfl (ng N2) A15 (zl N2) c15 G2
      have cel30 := L.tl.tl.tl.b0.c30
      have cel31 := L.tl.tl.tl.b0.c31
      have cel32 := L.tl.tl.tl.b0.c32
      go_wp2_with fail
      obtain ⟨gv4, hg⟩ : ∃ g, w44.heap.size = g := ⟨_, rfl⟩
      rw [hg] at L hlgv40 ⊢
      clear hg
      refine (P5.out _ _ _ (isD_n (m := N) (e := G) (s := .slice A12 (zl N) c12) (L.getN (by simp))) (isD_n (m := N) (e := G) (s := .slice A12 (zl N) c12) (L.getN (by simp)))).mono ?_
      rintro e w45 ⟨vv, rfl, id, be⟩
      clear cel30 cel31 cel32
      obtain ⟨A16, c16, rfl, _, in9⟩ := id.form
      replace L := (L.step be).n in9
      clear be id in9
      have hlgv50 := L.b0.lt
      replace L := L.varD w45.heap.size rfl (ng S) A16 (zl S) c16 F
      have cel10 := L.tl.b0.c30
      have cel11 := L.tl.b0.c31
      have cel12 := L.tl.b0.c32
      go_wp2_with fail
      obtain ⟨gv5, hg⟩ : ∃ g, w45.heap.size = g := ⟨_, rfl⟩
      rw [hg] at L hlgv50 ⊢
      clear hg
      refine (P6.out _ _ _ (isD_n (m := N2) (e := G2) (s := .slice A15 (zl N2) c15) (L.getN (by simp))) (isD_n (m := N2) (e := G2) (s := .slice A15 (zl N2) c15) (L.getN (by simp)))).mono ?_
      rintro e w46 ⟨vv, rfl, id, be⟩
      clear cel10 cel11 cel12
      obtain ⟨A17, c17, rfl, _, in9⟩ := id.form
      replace L := (L.step be).n in9
      clear be id in9
      have hlgv6 := L.b0.lt
      have hlgv61 := L.tl.tl.tl.tl.b0.lt
      replace L := L.varD w46.heap.size rfl (ng S2) A17 (zl S2) c17 F2
      have cel00 := L.b0.c30
      have cel01 := L.b0.c31
      have cel02 := L.b0.c32
      have cz0 := (L.tl.tl.tl.tl.tl.b0.c30).trans (congrArg (fun b => some (Value.bool b)) HNG.out)
      have cz1 := L.tl.tl.tl.tl.tl.b0.c31
      have cz2 := L.tl.tl.tl.tl.tl.b0.c32
      go_wp2_with fail
      clear cz0 cz1 cz2
      obtain ⟨gv6, hg⟩ : ∃ g, w46.heap.size = g := ⟨_, rfl⟩
      rw [hg] at L hlgv6 hlgv61 cel00 cel01 cel02 ⊢
      clear hg
      refine (P7.out _ _ (isD_b8 (m := N) (e := G) HNG.out (L.getN (v := .slice A12 (zl N) c12) (x := N.natAbs) (by simp)))).mono ?_
      rintro e w47 ⟨rfl, be⟩
      clear cel00 cel01 cel02
      replace L := L.step be
      clear be
      have cel10 := L.tl.b0.c30
      have cel11 := L.tl.b0.c31
      have cel12 := L.tl.b0.c32
      have cel60 := L.tl.tl.tl.tl.tl.tl.b0.c30
      have cel61 := L.tl.tl.tl.tl.tl.tl.b0.c31
      have cel62 := L.tl.tl.tl.tl.tl.tl.b0.c32
      go_wp2_with fail
      refine (P8.out _ _ _ (isD_n (m := S) (e := F) (s := .slice A16 (zl S) c16) (L.getN (by simp))) (isD_n (m := m) (e := e) (s := .slice A (zl m) c) (L.getN (by simp)))).mono ?_
      rintro e w48 ⟨rfl, be⟩
      clear cel10 cel11 cel12 cel60 cel61 cel62
      replace L := L.step be
      clear be
      have cel00 := L.b0.c30
      have cel01 := L.b0.c31
      have cel02 := L.b0.c32
      have cel60 := L.tl.tl.tl.tl.tl.tl.b0.c30
      have cel61 := L.tl.tl.tl.tl.tl.tl.b0.c31
      have cel62 := L.tl.tl.tl.tl.tl.tl.b0.c32
      go_wp2_with fail
      refine (P9.out _ _ _ (isD_n (m := S2) (e := F2) (s := .slice A17 (zl S2) c17) (L.getN (by simp))) (isD_n (m := m) (e := e) (s := .slice A (zl m) c) (L.getN (by simp)))).mono ?_
      rintro e w49 ⟨rfl, be⟩
      clear cel00 cel01 cel02 cel60 cel61 cel62
      replace L := L.step be
      clear be
      have cel10 := L.tl.b0.c30
      have cel11 := L.tl.b0.c31
      have cel12 := L.tl.b0.c32
      have cel60 := L.tl.tl.tl.tl.tl.tl.b0.c30
      have cel61 := L.tl.tl.tl.tl.tl.tl.b0.c31
      have cel62 := L.tl.tl.tl.tl.tl.tl.b0.c32
      go_wp2_with fail
      refine (P10.out _ _ _ (isD_n (m := S) (e := F) (s := .slice A16 (zl S) c16) (L.getN (by simp))) (isD_n (m := m) (e := e) (s := .slice A (zl m) c) (L.getN (by simp)))).mono ?_
      rintro e w50 ⟨rfl, be⟩
      clear cel10 cel11 cel12 cel60 cel61 cel62
      replace L := L.step be
      clear be
      have cel20 := L.tl.tl.b0.c30
      have cel21 := L.tl.tl.b0.c31
      have cel22 := L.tl.tl.b0.c32
      have cel40 := L.tl.tl.tl.tl.b0.c30
      have cel41 := L.tl.tl.tl.tl.b0.c31
      have cel42 := L.tl.tl.tl.tl.b0.c32
      go_wp2_with fail
      refine (S3.out _ _ _ (isD_n (m := N2) (e := G2) (s := .slice A13 (zl N2) c13) (L.getN (by simp))) (isD_n (m := N2) (e := G2) (s := .slice A15 (zl N2) c15) (L.getN (by simp)))).mono ?_
      rintro e w51 ⟨rfl, be⟩
      clear cel20 cel21 cel22 cel40 cel41 cel42
      replace L := L.step be
      clear be
      go_wp2_with fail
      go_ret
      exact ⟨rfl, L.below⟩

end Go.Proofs.YthfabjpbdgieoaaGreatDoor
