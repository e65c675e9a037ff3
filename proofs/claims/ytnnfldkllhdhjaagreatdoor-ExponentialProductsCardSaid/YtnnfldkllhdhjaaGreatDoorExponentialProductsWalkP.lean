/- The walk of ExponentialProducts: whatever the input, the law returns true and turns nothing that was there. -/
import Derived.Test.YtnnfldkllhdhjaaGreatDoorJP3
import Derived.Test.YtnnfldkllhdhjaaGreatDoorBaseFP
import Derived.Test.YtnnfldkllhdhjaaGreatDoorBaseWP
import Derived.Deep.RegionHeld3
import Derived.Deep.DrawnRows
namespace Go.Proofs.YtnnfldkllhdhjaaGreatDoor
open Go.RowKit
set_option linter.unusedVariables false
set_option linter.unusedSimpArgs false
set_option maxRecDepth 100000
attribute [local go_sem ↓] Go.wp_at_zero Go.wp_at_succ

theorem icm_le9 {m e n f m2 e2 n2 f2 : Int} (h2 : dq m e ≤ dq n2 f2) : icm m e n f m2 e2 n2 f2 ≤ 0 := by
  have h3 : dcm m e n2 f2 ≤ 0 := (dcm_le _ _ _ _).2 h2
  unfold icm
  (repeat' split) <;> omega
theorem icm_meet9 {m e n f m2 e2 n2 f2 : Int} (h1 : dq m2 e2 ≤ dq n f) (h2 : dq m e ≤ dq n2 f2) : icm m e n f m2 e2 n2 f2 = 0 := by
  have h3 : dcm m2 e2 n f ≤ 0 := (dcm_le _ _ _ _).2 h1
  have h4 : dcm m e n2 f2 ≤ 0 := (dcm_le _ _ _ _).2 h2
  have h5 := dcm_swap m2 e2 n f
  unfold icm
  (repeat' split) <;> omega
theorem to16 {m e n f : Int} (h : ArgX 4 m e n f) : -16 ≤ dq m e ∧ dq n f ≤ 16 := by
  have v4 : dq 1 4 = 16 := by decide +kernel
  have h1 := h.lo
  have h2 := h.hi
  rw [v4] at h1 h2
  exact ⟨h1, h2⟩

set_option maxHeartbeats 64000000 in
theorem walk_ExponentialProducts (b0 : Bool) (a0 : Option Addr) (len0 cap0 : Nat) (z0 : List Nat) (f0 : Int) (bb0 : Bool) (aa0 : Option Addr) (ll0 cc0 : Nat) (zz0 : List Nat) (ff0 : Int) (b1 : Bool) (a1 : Option Addr) (len1 cap1 : Nat) (z1 : List Nat) (f1 : Int) (bb1 : Bool) (aa1 : Option Addr) (ll1 cc1 : Nat) (zz1 : List Nat) (ff1 : Int) (a2 : Int) (w : World) (h0 : Sl w a0 len0 cap0 z0 ∧ -9223372036854775808 ≤ f0 ∧ f0 ≤ 9223372036854775807) (k0 : Sl w aa0 ll0 cc0 zz0 ∧ -9223372036854775808 ≤ ff0 ∧ ff0 ≤ 9223372036854775807) (h1 : Sl w a1 len1 cap1 z1 ∧ -9223372036854775808 ≤ f1 ∧ f1 ≤ 9223372036854775807) (k1 : Sl w aa1 ll1 cc1 zz1 ∧ -9223372036854775808 ≤ ff1 ∧ ff1 ≤ 9223372036854775807) (h2 : -9223372036854775808 ≤ a2 ∧ a2 ≤ 9223372036854775807) (hT : Tab w) :
    Calls Tryz.prog 6 #[.agg #[.bool b0, .slice a0 len0 cap0, .int .i64 f0, .bool bb0, .slice aa0 ll0 cc0, .int .i64 ff0], .agg #[.bool b1, .slice a1 len1 cap1, .int .i64 f1, .bool bb1, .slice aa1 ll1 cc1, .int .i64 ff1], .int .i64 a2] w (fun e w' => e = .returned (.bool true) ∧ Below w.heap.size w w') := by
  have HT := Lib.hid (fun W (hW : Below w.heap.size w W) => hT.mono hW)
  clear hT
  go_enter Tryz.func6, Tryz.ntmps6
  go_wp2_with fail
  have L := (((Lq.mk0 w).varI (w.heap.size) (by simp) b0 a0 len0 cap0 f0 bb0 aa0 ll0 cc0 ff0).varI (w.heap.size + 1) (by simp) b1 a1 len1 cap1 f1 bb1 aa1 ll1 cc1 ff1)
  (try go_wp2_with fail)
  refine (awake14_any _ (HT.out _ L.below)).mono ?_
  rintro e9 w1 ⟨rfl, be⟩
  replace L := L.step be
  clear be
  have c00 := L.b0.c60
  have c01 := L.b0.c61
  have c02 := L.b0.c62
  have c03 := L.b0.c63
  have c04 := L.b0.c64
  have c05 := L.b0.c65
  have c10 := L.tl.b0.c60
  have c11 := L.tl.b0.c61
  have c12 := L.tl.b0.c62
  have c13 := L.tl.b0.c63
  have c14 := L.tl.b0.c64
  have c15 := L.tl.b0.c65
  (try go_wp2_with fail)
  refine (s14arg_any b0 bb0 z0 zz0 a0 aa0 len0 cap0 ll0 cc0 f0 ff0 4 _ (h0.1.mono L.below) (k0.1.mono L.below) h0.2.1 h0.2.2 k0.2.1 k0.2.2 (by omega)).mono ?_
  rintro e9 w2 ⟨vx, ok, m, e, n, f, rfl, ii, be, hok⟩
  clear c00 c01 c02 c03 c04 c05 c10 c11 c12 c13 c14 c15
  obtain ⟨A, c, B, d, rfl, ia, ib⟩ := ii.form
  replace L := ((L.step be).n ib).n ia
  clear be ii ia ib
  have hl9 := L.b0.lt
  replace L := L.varI w2.heap.size rfl (ng m) A (zl m) c e (ng n) B (zl n) d f
  have c10 := L.tl.b0.c60
  have c11 := L.tl.b0.c61
  have c12 := L.tl.b0.c62
  have c13 := L.tl.b0.c63
  have c14 := L.tl.b0.c64
  have c15 := L.tl.b0.c65
  go_wp2_with fail
  clear c10 c11 c12 c13 c14 c15
  obtain ⟨gx, hgx⟩ : ∃ g9, w2.heap.size = g9 := ⟨_, rfl⟩
  rw [hgx] at L hl9 ⊢
  clear hgx
  have hl_gx := hl9
  clear hl9
  refine (s14arg_any b1 bb1 z1 zz1 a1 aa1 len1 cap1 ll1 cc1 f1 ff1 4 _ (h1.1.mono L.below) (k1.1.mono L.below) h1.2.1 h1.2.2 k1.2.1 k1.2.2 (by omega)).mono ?_
  rintro e9 w3 ⟨vy, fine, m2, e2, n2, f2, rfl, ii, be, hfine⟩
  obtain ⟨A2, c2, B2, d2, rfl, ia, ib⟩ := ii.form
  replace L := ((L.step be).n ib).n ia
  clear be ii ia ib
  have hl9 := L.b0.lt
  replace L := L.varI w3.heap.size rfl (ng m2) A2 (zl m2) c2 e2 (ng n2) B2 (zl n2) d2 f2
  cases ok
  · go_wp2_with fail
    go_ret
    exact ⟨rfl, L.below⟩
  cases fine
  · go_wp2_with fail
    go_ret
    exact ⟨rfl, L.below⟩
  obtain ⟨j, hj, hr, t1, t2⟩ := hok rfl
  have hX := ArgX.of hr hj t1 t2
  obtain ⟨j2, hj2, hr2, t3, t4⟩ := hfine rfl
  have hY := ArgX.of hr2 hj2 t3 t4
  have z3x := And.intro hr.zm hr.zn
  have z3y := And.intro hr2.zm hr2.zn
  clear hok hfine hr hj t1 t2 hr2 hj2 t3 t4
  obtain ⟨k, hk⟩ : ∃ r : Nat, a2 % 80 = (r : Int) := ⟨(a2 % 80).toNat, by omega⟩
  have o1 := fun W => mod_any a2 80 W (by omega) (by omega) h2.1 h2.2
  rw [hk] at o1
  have bk : k < 80 := by omega
  have MO1 := Lib.hid o1
  obtain ⟨K, hK⟩ : ∃ K, k + 40 = K := ⟨_, rfl⟩
  have wq : IntKind.i64.wrap ((k : Int) + 40) = (K : Int) := by rw [IntKind.wrap_i64]; omega
  obtain ⟨x16, x17⟩ := to16 hX
  obtain ⟨y16, y17⟩ := to16 hY
  have v7 : dq 1 ((7 : Nat) : Int) = 128 := by decide +kernel
  have hsm : ∀ p q p2 q2 : Rat, -16 ≤ p → q ≤ 16 → -16 ≤ p2 → q2 ≤ 16 → p ≤ q → p2 ≤ q2 → (-64 ≤ p + p2 ∧ q + q2 ≤ 64 ∧ p + p2 ≤ q + q2 ∧ -128 ≤ p + p2 ∧ q + q2 ≤ 128) ∧ (-64 ≤ -q ∧ -p ≤ 64 ∧ -q ≤ -p ∧ -128 ≤ -q ∧ -p ≤ 128) := fun p q p2 q2 h1 h2 h3 h4 h5 h6 => by
    refine ⟨⟨?_, ?_, ?_, ?_, ?_⟩, ?_, ?_, ?_, ?_, ?_⟩ <;> grind
  obtain ⟨⟨l1, l2, l3, l4, l5⟩, l6, l7, l8, l9, l10⟩ := hsm _ _ _ _ x16 x17 y16 y17 hX.le hY.le
  clear hsm
  obtain ⟨S1, S2, rs, as1, as2, cs1, cs2, cs3, cs4⟩ := en14 (k := K) (J := 7) (lo := dq m e + dq m2 e2) (hi := dq n f + dq n2 f2) (by omega) (by omega) (by rw [v7]; exact l4) (by rw [v7]; exact l5) l3
  have hS := en_arg (by omega) (by omega) as1 as2 cs1 cs2 cs3 cs4 l1 l2 l3
  obtain ⟨N1, N2, rn, an1, an2, cn1, cn2, cn3, cn4⟩ := en14 (k := K) (J := 7) (lo := -(dq n f)) (hi := -(dq m e)) (by omega) (by omega) (by rw [v7]; exact l9) (by rw [v7]; exact l10) l8
  have hN := en_arg (by omega) (by omega) an1 an2 cn1 cn2 cn3 cn4 l6 l7 l8
  obtain ⟨_, _, _, _, qs1⟩ := np as1 (by omega) (show K ≤ 3000 by omega)
  obtain ⟨_, _, _, _, qs2⟩ := np as2 (by omega) (show K ≤ 3000 by omega)
  obtain ⟨_, _, _, _, qn1⟩ := np an1 (by omega) (show K ≤ 3000 by omega)
  obtain ⟨_, _, _, _, qn2⟩ := np an2 (by omega) (show K ≤ 3000 by omega)
  rw [← qs1] at cs1
  rw [← qs2] at cs3
  rw [← qn1] at cn1
  rw [← qn2] at cn3
  clear qs1 qs2 qn1 qn2 cs2 cs4 cn2 cn4 as1 as2 an1 an2 l1 l2 l3 l4 l5 l6 l7 l8 l9 l10 v7 x16 x17 y16 y17
  obtain ⟨z3, z4⟩ := z3x
  obtain ⟨z5, z6⟩ := z3y
  have b1 := hX.em
  have b2 := hX.en
  have b3 := hY.em
  have b4 := hY.en
  have g1 := fun v u W h k9 (hW : Below w.heap.size w W) => aadd_any m e n f m2 e2 n2 f2 (K : Int) v u W h k9 (by omega) (by omega) (by omega) (by omega) (by omega) (by omega) (by omega) (by omega) ((dcm_le _ _ _ _).2 hX.le) ((dcm_le _ _ _ _).2 hY.le) (by omega) (by omega) (HT.out W hW)
  have g2 := fun v W h (hW : Below w.heap.size w W) => aneg_any m e n f (K : Int) v W h (by omega) (by omega) (by omega) (by omega) ((dcm_le _ _ _ _).2 hX.le) (by omega) (by omega) (HT.out W hW)
  simp only [rs] at g1
  simp only [rn] at g2
  obtain ⟨Ms, hMs⟩ : ∃ z, mkM S1 (-(K : Int)) = z := ⟨_, rfl⟩
  obtain ⟨Es, hEs⟩ : ∃ z, mkE S1 (-(K : Int)) = z := ⟨_, rfl⟩
  obtain ⟨Ns, hNs⟩ : ∃ z, mkM S2 (-(K : Int)) = z := ⟨_, rfl⟩
  obtain ⟨Fs, hFs⟩ : ∃ z, mkE S2 (-(K : Int)) = z := ⟨_, rfl⟩
  obtain ⟨Mn, hMn⟩ : ∃ z, mkM N1 (-(K : Int)) = z := ⟨_, rfl⟩
  obtain ⟨En, hEn⟩ : ∃ z, mkE N1 (-(K : Int)) = z := ⟨_, rfl⟩
  obtain ⟨Nn, hNn⟩ : ∃ z, mkM N2 (-(K : Int)) = z := ⟨_, rfl⟩
  obtain ⟨Fn, hFn⟩ : ∃ z, mkE N2 (-(K : Int)) = z := ⟨_, rfl⟩
  rw [hMs, hEs, hNs, hFs] at g1 hS
  rw [hMn, hEn, hNn, hFn] at g2 hN
  rw [hMs, hEs] at cs1
  rw [hNs, hFs] at cs3
  rw [hMn, hEn] at cn1
  rw [hNn, hFn] at cn3
  clear hMs hEs hNs hFs hMn hEn hNn hFn rs rn
  obtain ⟨sx, _, _, _, _⟩ := hX.all (by omega)
  obtain ⟨sy, _, _, _, _⟩ := hY.all (by omega)
  obtain ⟨ss, _, _, _, _⟩ := hS.all (by omega)
  obtain ⟨sn, _, _, _, _⟩ := hN.all (by omega)
  have u1 := hS.zm
  have u2 := hS.zn
  have u3 := hS.em
  have u4 := hS.en
  have u5 := hN.zm
  have u6 := hN.zn
  have u7 := hN.em
  have u8 := hN.en
  have g3 := fun v W h (hW : Below w.heap.size w W) => xexp_yes m e n f k v W h (by omega) (by omega) (by omega) (by omega) hX.vm hX.vn sx (by omega) (hX.to200 (by omega)) (HT.out W hW)
  have g4 := fun v W h (hW : Below w.heap.size w W) => xexp_yes m2 e2 n2 f2 k v W h (by omega) (by omega) (by omega) (by omega) hY.vm hY.vn sy (by omega) (hY.to200 (by omega)) (HT.out W hW)
  have g5 := fun v W h (hW : Below w.heap.size w W) => xexp_yes Ms Es Ns Fs k v W h (by omega) (by omega) (by omega) (by omega) hS.vm hS.vn ss (by omega) (hS.to200 (by omega)) (HT.out W hW)
  have g6 := fun v W h (hW : Below w.heap.size w W) => xexp_yes Mn En Nn Fn k v W h (by omega) (by omega) (by omega) (by omega) hN.vm hN.vn sn (by omega) (hN.to200 (by omega)) (HT.out W hW)
  have hXl := hX.le
  have hYl := hY.le
  have HQ := Lib.hid (And.intro cs1 (And.intro cs3 (And.intro cn1 (And.intro cn3 (And.intro hXl (And.intro hYl bk))))))
  have G1 := Lib.hid g1
  have G2 := Lib.hid g2
  have G3 := Lib.hid g3
  have G4 := Lib.hid g4
  have G5 := Lib.hid g5
  have G6 := Lib.hid g6
  clear o1 hk bk hK sx sy ss sn u1 u2 u3 u4 u5 u6 u7 u8 z3 z4 z5 z6 b1 b2 b3 b4 g1 g2 g3 g4 g5 g6 cs1 cs3 cn1 cn3 hXl hYl hX hY hS hN
  go_wp2_with fail
  obtain ⟨gy, hgy⟩ : ∃ g9, w3.heap.size = g9 := ⟨_, rfl⟩
  rw [hgy] at L hl9 ⊢
  clear hgy
  have hl_gy := hl9
  clear hl9
  refine (MO1.out _).mono ?_
  rintro e9 w' ⟨rfl, rfl⟩
  have c00 := L.b0.c60
  have c01 := L.b0.c61
  have c02 := L.b0.c62
  have c03 := L.b0.c63
  have c04 := L.b0.c64
  have c05 := L.b0.c65
  have c10 := L.tl.b0.c60
  have c11 := L.tl.b0.c61
  have c12 := L.tl.b0.c62
  have c13 := L.tl.b0.c63
  have c14 := L.tl.b0.c64
  have c15 := L.tl.b0.c65
  (try go_wp2_with fail)
  refine (G1.out _ _ _ (isI_n (m := m) (e := e) (n := n) (f := f) (s := .slice A (zl m) c) (t := .slice B (zl n) d) (L.getN (by simp)) (L.getN (by simp))) (isI_n (m := m2) (e := e2) (n := n2) (f := f2) (s := .slice A2 (zl m2) c2) (t := .slice B2 (zl n2) d2) (L.getN (by simp)) (L.getN (by simp))) L.below).mono ?_
  rintro e w4 ⟨vv, rfl, ii, be⟩
  clear c00 c01 c02 c03 c04 c05 c10 c11 c12 c13 c14 c15
  obtain ⟨As, cs, Bs, ds, rfl, ia, ib⟩ := ii.form
  replace L := ((L.step be).n ib).n ia
  clear be ii ia ib
  have hl9 := L.b0.lt
  replace L := L.varI w4.heap.size rfl (ng Ms) As (zl Ms) cs Es (ng Ns) Bs (zl Ns) ds Fs
  have c20 := L.tl.tl.b0.c60
  have c21 := L.tl.tl.b0.c61
  have c22 := L.tl.tl.b0.c62
  have c23 := L.tl.tl.b0.c63
  have c24 := L.tl.tl.b0.c64
  have c25 := L.tl.tl.b0.c65
  go_wp2_with fail
  clear c20 c21 c22 c23 c24 c25
  obtain ⟨gs, hgs⟩ : ∃ g9, w4.heap.size = g9 := ⟨_, rfl⟩
  rw [hgs] at L hl9 ⊢
  clear hgs
  have hl_gs := hl9
  clear hl9
  refine (G2.out _ _ (isI_n (m := m) (e := e) (n := n) (f := f) (s := .slice A (zl m) c) (t := .slice B (zl n) d) (L.getN (by simp)) (L.getN (by simp))) L.below).mono ?_
  rintro e w5 ⟨vv, rfl, ii, be⟩
  obtain ⟨An, cn, Bn, dn, rfl, ia, ib⟩ := ii.form
  replace L := ((L.step be).n ib).n ia
  clear be ii ia ib
  have hl9 := L.b0.lt
  replace L := L.varI w5.heap.size rfl (ng Mn) An (zl Mn) cn En (ng Nn) Bn (zl Nn) dn Fn
  have c30 := L.tl.tl.tl.b0.c60
  have c31 := L.tl.tl.tl.b0.c61
  have c32 := L.tl.tl.tl.b0.c62
  have c33 := L.tl.tl.tl.b0.c63
  have c34 := L.tl.tl.tl.b0.c64
  have c35 := L.tl.tl.tl.b0.c65
  go_wp2_with fail
  clear c30 c31 c32 c33 c34 c35
  obtain ⟨gn, hgn⟩ : ∃ g9, w5.heap.size = g9 := ⟨_, rfl⟩
  rw [hgn] at L hl9 ⊢
  clear hgn
  have hl_gn := hl9
  clear hl9
  refine (G3.out _ _ (isI_n (m := m) (e := e) (n := n) (f := f) (s := .slice A (zl m) c) (t := .slice B (zl n) d) (L.getN (by simp)) (L.getN (by simp))) L.below).mono ?_
  intro e9 w6 hr9
  obtain ⟨ap, bp, hap, hbp, vv, rfl, ii, be⟩ := hr9.ab
  obtain ⟨A3, c3, B3, d3, rfl, ia, ib⟩ := ii.form
  replace L := ((L.step be).n ib).n ia
  clear be ii ia ib hr9
  have hl9 := L.b0.lt
  obtain ⟨Mp, hMp⟩ : ∃ z, mkM ap (-(k : Int)) = z := ⟨_, rfl⟩
  obtain ⟨Ep, hEp⟩ : ∃ z, mkE ap (-(k : Int)) = z := ⟨_, rfl⟩
  obtain ⟨Np, hNp⟩ : ∃ z, mkM bp (-(k : Int)) = z := ⟨_, rfl⟩
  obtain ⟨Fp, hFp⟩ : ∃ z, mkE bp (-(k : Int)) = z := ⟨_, rfl⟩
  rw [hMp, hNp] at L ⊢
  rw [hEp, hFp]
  have Hap := Lib.hid (And.intro hap (And.intro hbp (And.intro (And.intro hMp hEp) (And.intro hNp hFp))))
  clear hap hbp hMp hEp hNp hFp
  replace L := L.varI w6.heap.size rfl (ng Mp) A3 (zl Mp) c3 Ep (ng Np) B3 (zl Np) d3 Fp
  have c30 := L.tl.tl.tl.b0.c60
  have c31 := L.tl.tl.tl.b0.c61
  have c32 := L.tl.tl.tl.b0.c62
  have c33 := L.tl.tl.tl.b0.c63
  have c34 := L.tl.tl.tl.b0.c64
  have c35 := L.tl.tl.tl.b0.c65
  go_wp2_with fail
  clear c30 c31 c32 c33 c34 c35
  obtain ⟨gp, hgp⟩ : ∃ g9, w6.heap.size = g9 := ⟨_, rfl⟩
  rw [hgp] at L hl9 ⊢
  clear hgp
  have hl_gp := hl9
  clear hl9
  refine (G4.out _ _ (isI_n (m := m2) (e := e2) (n := n2) (f := f2) (s := .slice A2 (zl m2) c2) (t := .slice B2 (zl n2) d2) (L.getN (by simp)) (L.getN (by simp))) L.below).mono ?_
  intro e9 w7 hr9
  obtain ⟨aq, bq, haq, hbq, vv, rfl, ii, be⟩ := hr9.ab
  obtain ⟨A4, c4, B4, d4, rfl, ia, ib⟩ := ii.form
  replace L := ((L.step be).n ib).n ia
  clear be ii ia ib hr9
  have hl9 := L.b0.lt
  obtain ⟨Mq, hMq⟩ : ∃ z, mkM aq (-(k : Int)) = z := ⟨_, rfl⟩
  obtain ⟨Eq, hEq⟩ : ∃ z, mkE aq (-(k : Int)) = z := ⟨_, rfl⟩
  obtain ⟨Nq, hNq⟩ : ∃ z, mkM bq (-(k : Int)) = z := ⟨_, rfl⟩
  obtain ⟨Fq, hFq⟩ : ∃ z, mkE bq (-(k : Int)) = z := ⟨_, rfl⟩
  rw [hMq, hNq] at L ⊢
  rw [hEq, hFq]
  have Haq := Lib.hid (And.intro haq (And.intro hbq (And.intro (And.intro hMq hEq) (And.intro hNq hFq))))
  clear haq hbq hMq hEq hNq hFq
  replace L := L.varI w7.heap.size rfl (ng Mq) A4 (zl Mq) c4 Eq (ng Nq) B4 (zl Nq) d4 Fq
  have c30 := L.tl.tl.tl.b0.c60
  have c31 := L.tl.tl.tl.b0.c61
  have c32 := L.tl.tl.tl.b0.c62
  have c33 := L.tl.tl.tl.b0.c63
  have c34 := L.tl.tl.tl.b0.c64
  have c35 := L.tl.tl.tl.b0.c65
  go_wp2_with fail
  clear c30 c31 c32 c33 c34 c35
  obtain ⟨gq, hgq⟩ : ∃ g9, w7.heap.size = g9 := ⟨_, rfl⟩
  rw [hgq] at L hl9 ⊢
  clear hgq
  have hl_gq := hl9
  clear hl9
  refine (G5.out _ _ (isI_n (m := Ms) (e := Es) (n := Ns) (f := Fs) (s := .slice As (zl Ms) cs) (t := .slice Bs (zl Ns) ds) (L.getN (by simp)) (L.getN (by simp))) L.below).mono ?_
  intro e9 w8 hr9
  obtain ⟨ar, br, har, hbr, vv, rfl, ii, be⟩ := hr9.ab
  obtain ⟨A5, c5, B5, d5, rfl, ia, ib⟩ := ii.form
  replace L := ((L.step be).n ib).n ia
  clear be ii ia ib hr9
  have hl9 := L.b0.lt
  obtain ⟨Mr, hMr⟩ : ∃ z, mkM ar (-(k : Int)) = z := ⟨_, rfl⟩
  obtain ⟨Er, hEr⟩ : ∃ z, mkE ar (-(k : Int)) = z := ⟨_, rfl⟩
  obtain ⟨Nr, hNr⟩ : ∃ z, mkM br (-(k : Int)) = z := ⟨_, rfl⟩
  obtain ⟨Fr, hFr⟩ : ∃ z, mkE br (-(k : Int)) = z := ⟨_, rfl⟩
  rw [hMr, hNr] at L ⊢
  rw [hEr, hFr]
  have Har := Lib.hid (And.intro har (And.intro hbr (And.intro (And.intro hMr hEr) (And.intro hNr hFr))))
  clear har hbr hMr hEr hNr hFr
  replace L := L.varI w8.heap.size rfl (ng Mr) A5 (zl Mr) c5 Er (ng Nr) B5 (zl Nr) d5 Fr
  have c30 := L.tl.tl.tl.b0.c60
  have c31 := L.tl.tl.tl.b0.c61
  have c32 := L.tl.tl.tl.b0.c62
  have c33 := L.tl.tl.tl.b0.c63
  have c34 := L.tl.tl.tl.b0.c64
  have c35 := L.tl.tl.tl.b0.c65
  go_wp2_with fail
  clear c30 c31 c32 c33 c34 c35
  obtain ⟨gr, hgr⟩ : ∃ g9, w8.heap.size = g9 := ⟨_, rfl⟩
  rw [hgr] at L hl9 ⊢
  clear hgr
  have hl_gr := hl9
  clear hl9
  refine (G6.out _ _ (isI_n (m := Mn) (e := En) (n := Nn) (f := Fn) (s := .slice An (zl Mn) cn) (t := .slice Bn (zl Nn) dn) (L.getN (by simp)) (L.getN (by simp))) L.below).mono ?_
  intro e9 w9 hr9
  obtain ⟨ao, bo, hao, hbo, vv, rfl, ii, be⟩ := hr9.ab
  obtain ⟨A6, c6, B6, d6, rfl, ia, ib⟩ := ii.form
  replace L := ((L.step be).n ib).n ia
  clear be ii ia ib hr9
  have hl9 := L.b0.lt
  obtain ⟨Mo, hMo⟩ : ∃ z, mkM ao (-(k : Int)) = z := ⟨_, rfl⟩
  obtain ⟨Eo, hEo⟩ : ∃ z, mkE ao (-(k : Int)) = z := ⟨_, rfl⟩
  obtain ⟨No, hNo⟩ : ∃ z, mkM bo (-(k : Int)) = z := ⟨_, rfl⟩
  obtain ⟨Fo, hFo⟩ : ∃ z, mkE bo (-(k : Int)) = z := ⟨_, rfl⟩
  rw [hMo, hNo] at L ⊢
  rw [hEo, hFo]
  have Hao := Lib.hid (And.intro hao (And.intro hbo (And.intro (And.intro hMo hEo) (And.intro hNo hFo))))
  clear hao hbo hMo hEo hNo hFo
  replace L := L.varI w9.heap.size rfl (ng Mo) A6 (zl Mo) c6 Eo (ng No) B6 (zl No) d6 Fo
  have c20 := L.tl.tl.b0.c60
  have c21 := L.tl.tl.b0.c61
  have c22 := L.tl.tl.b0.c62
  have c23 := L.tl.tl.b0.c63
  have c24 := L.tl.tl.b0.c64
  have c25 := L.tl.tl.b0.c65
  have c30 := L.tl.tl.tl.b0.c60
  have c31 := L.tl.tl.tl.b0.c61
  have c32 := L.tl.tl.tl.b0.c62
  have c33 := L.tl.tl.tl.b0.c63
  have c34 := L.tl.tl.tl.b0.c64
  have c35 := L.tl.tl.tl.b0.c65
  go_wp2_with fail
  clear c20 c21 c22 c23 c24 c25 c30 c31 c32 c33 c34 c35
  obtain ⟨go, hgo⟩ : ∃ g9, w9.heap.size = g9 := ⟨_, rfl⟩
  rw [hgo] at L hl9 ⊢
  clear hgo
  have hl_go := hl9
  clear hl9
  obtain ⟨cs1, cs3, cn1, cn3, hXl, hYl, bk⟩ := HQ.out
  obtain ⟨eap, ebp, ⟨hMp, hEp⟩, hNp, hFp⟩ := Hap.out
  obtain ⟨eaq, ebq, ⟨hMq, hEq⟩, hNq, hFq⟩ := Haq.out
  obtain ⟨ear, ebr, ⟨hMr, hEr⟩, hNr, hFr⟩ := Har.out
  obtain ⟨eao, ebo, ⟨hMo, hEo⟩, hNo, hFo⟩ := Hao.out
  obtain ⟨U1, U2, ru, au1, au2, cu1, cu2⟩ := en_mul (k := k) (by omega) eap.2.1 ebp.1 eaq.2.1 ebq.1
  obtain ⟨V1, V2, rv, av1, av2, cv1, cv2⟩ := en_mul (k := k) (by omega) eap.2.1 ebp.1 eao.2.1 ebo.1
  have k1 := (lo_mul eap eaq).mono (y := dq Ns Fs) (Rat.le_trans ((Rat.add_le_add_right (c := dq m2 e2)).2 hXl) (Rat.le_trans ((Rat.add_le_add_left (c := dq n f)).2 hYl) cs3)) (by
    have a0 := (dq_le_iff 0 ap (-(k : Int))).2 eap.1
    have b0 := (dq_le_iff 0 aq (-(k : Int))).2 eaq.1
    rw [dq_zero] at a0 b0
    exact Rat.mul_nonneg a0 b0)
  have m1 := Rat.le_trans cu1 (k1.le ebr.2.2)
  have r0 := (dq_le_iff 0 ar (-(k : Int))).2 ear.1
  rw [dq_zero] at r0
  have k2 := ear.2.2.1.mono (y := dq n f + dq n2 f2) (Rat.le_trans cs1 (Rat.le_trans ((Rat.add_le_add_right (c := dq m2 e2)).2 hXl) ((Rat.add_le_add_left (c := dq n f)).2 hYl))) r0
  have m2' := Rat.le_trans (k2.le (ebp.2.2.add ebq.2.2)) cu2
  have m3 : dq V1 (-(k : Int)) ≤ 1 := by
    refine Rat.le_trans cv1 (((lo_mul eap eao).mono (y := 0) ?_ ?_).le exp_0.2)
    · generalize dq m e = p9 at *
      generalize dq n f = q9 at *
      generalize dq Mn En = r9 at *
      clear k1 k2 m1 m2' cv1 cv2 cu1 cu2
      grind
    · have a0 := (dq_le_iff 0 ap (-(k : Int))).2 eap.1
      have b0 := (dq_le_iff 0 ao (-(k : Int))).2 eao.1
      rw [dq_zero] at a0 b0
      exact Rat.mul_nonneg a0 b0
  have m4 : 1 ≤ dq V2 (-(k : Int)) := by
    refine Rat.le_trans (exp_0.1.le ((ebp.2.2.add ebo.2.2).mono ?_)) cv2
    generalize dq m e = p9 at *
    generalize dq n f = q9 at *
    generalize dq Nn Fn = r9 at *
    clear k1 k2 m1 m2' m3 cv1 cv2 cu1 cu2
    grind
  obtain ⟨x1, x2, x3, x4, x5⟩ := np eap.2.1 (by omega) (show k ≤ 3000 by omega)
  obtain ⟨y1, y2, y3, y4, y5⟩ := np ebp.1 (by omega) (show k ≤ 3000 by omega)
  obtain ⟨x6, x7, x8, x9, x10⟩ := np eaq.2.1 (by omega) (show k ≤ 3000 by omega)
  obtain ⟨y6, y7, y8, y9, y10⟩ := np ebq.1 (by omega) (show k ≤ 3000 by omega)
  obtain ⟨x11, x12, x13, x14, x15⟩ := np ear.2.1 (by omega) (show k ≤ 3000 by omega)
  obtain ⟨y11, y12, y13, y14, y15⟩ := np ebr.1 (by omega) (show k ≤ 3000 by omega)
  obtain ⟨x16, x17, x18, x19, x20⟩ := np eao.2.1 (by omega) (show k ≤ 3000 by omega)
  obtain ⟨y16, y17, y18, y19, y20⟩ := np ebo.1 (by omega) (show k ≤ 3000 by omega)
  obtain ⟨p1, p2, p3, p4, p5⟩ := np au1 (by omega) (show k ≤ 3000 by omega)
  obtain ⟨p6, p7, p8, p9, p10⟩ := np au2 (by omega) (show k ≤ 3000 by omega)
  obtain ⟨q1, q2, q3, q4, q5⟩ := np av1 (by omega) (show k ≤ 3000 by omega)
  obtain ⟨q6, q7, q8, q9, q10⟩ := np av2 (by omega) (show k ≤ 3000 by omega)
  have lpq := ep_le eap ebp hXl
  have lqq := ep_le eaq ebq hYl
  have hNle : dq Mn En ≤ dq Nn Fn := by
    refine Rat.le_trans cn1 (Rat.le_trans ?_ cn3)
    exact Rat.neg_le_neg hXl
  have loo := ep_le eao ebo hNle
  have g7 := fun v u W h k9 (hW : Below w.heap.size w W) => amul_any (mkM ap (-(k : Int))) (mkE ap (-(k : Int))) (mkM bp (-(k : Int))) (mkE bp (-(k : Int))) (mkM aq (-(k : Int))) (mkE aq (-(k : Int))) (mkM bq (-(k : Int))) (mkE bq (-(k : Int))) (k : Int) v u W h k9 (by omega) (by omega) (by omega) (by omega) (by omega) (by omega) (by omega) (by omega) ((dcm_le _ _ _ _).2 (by rw [x5, y5]; exact (dq_le_iff _ _ _).2 lpq)) ((dcm_le _ _ _ _).2 (by rw [x10, y10]; exact (dq_le_iff _ _ _).2 lqq)) (by omega) (by omega) (HT.out W hW)
  have g8 := fun v u W h k9 (hW : Below w.heap.size w W) => amul_any (mkM ap (-(k : Int))) (mkE ap (-(k : Int))) (mkM bp (-(k : Int))) (mkE bp (-(k : Int))) (mkM ao (-(k : Int))) (mkE ao (-(k : Int))) (mkM bo (-(k : Int))) (mkE bo (-(k : Int))) (k : Int) v u W h k9 (by omega) (by omega) (by omega) (by omega) (by omega) (by omega) (by omega) (by omega) ((dcm_le _ _ _ _).2 (by rw [x5, y5]; exact (dq_le_iff _ _ _).2 lpq)) ((dcm_le _ _ _ _).2 (by rw [x20, y20]; exact (dq_le_iff _ _ _).2 loo)) (by omega) (by omega) (HT.out W hW)
  simp only [x5, y5, x10, y10, ru] at g7
  simp only [x5, y5, x20, y20, rv] at g8
  have g9 : ∀ v u W, IsI W v (mkM U1 (-(k : Int))) (mkE U1 (-(k : Int))) (mkM U2 (-(k : Int))) (mkE U2 (-(k : Int))) → IsI W u (mkM ar (-(k : Int))) (mkE ar (-(k : Int))) (mkM br (-(k : Int))) (mkE br (-(k : Int))) → Calls Tryz.prog 27 #[v, u] W (RetI W 0) := fun v u W h k9 => by
    have s := r10cmp_any _ _ _ _ _ _ _ _ v u W h k9 (by omega) (by omega) (by omega) (by omega) (by omega) (by omega) (by omega) (by omega)
    rwa [icm_meet9 (by rw [x15, p10]; exact m2') (by rw [p5, y15]; exact m1)] at s
  have g10 : ∀ v u W, IsI W v (mkM V1 (-(k : Int))) (mkE V1 (-(k : Int))) (mkM V2 (-(k : Int))) (mkE V2 (-(k : Int))) → IsP W u 1 1 → Calls Tryz.prog 28 #[v, u] W (RetB W true) := fun v u W h k9 => by
    have s := r10has_any _ _ _ _ 1 1 v u W h k9 (by omega) (by omega) (by omega) (by omega) (Nat.le_trans (zl_c 1 (by decide)) (by omega)) (Nat.le_trans (len_le1 (by decide)) (by omega))
    rwa [(hasB_iff _ _ _ _ _ _ (by omega)).2 ⟨by rw [q5]; exact m3, by rw [q10]; exact m4⟩] at s
  have g11 := fun W => (show Calls Tryz.prog 29 #[.int .i64 1] W (RetP W 1 1) from rofn7_any 1 W (by omega) (by omega))
  clear x1 x2 x3 x4 x5 x6 x7 x8 x9 x10 x11 x12 x13 x14 x15 x16 x17 x18 x19 x20 y1 y2 y3 y4 y5 y6 y7 y8 y9 y10 y11 y12 y13 y14 y15 y16 y17 y18 y19 y20 p1 p2 p3 p4 p5 p6 p7 p8 p9 p10 q1 q2 q3 q4 q5 q6 q7 q8 q9 q10 lpq lqq loo hNle m1 m2' m3 m4 k1 k2 r0 cu1 cu2 cv1 cv2 ru rv au1 au2 av1 av2 cs1 cs3 cn1 cn3 hXl hYl bk eap ebp eaq ebq ear ebr eao ebo HQ Hap Haq Har Hao
  rw [hMp, hEp, hNp, hFp, hMq, hEq, hNq, hFq] at g7
  rw [hMp, hEp, hNp, hFp, hMo, hEo, hNo, hFo] at g8
  rw [hMr, hEr, hNr, hFr] at g9
  clear hMp hEp hNp hFp hMq hEq hNq hFq hMr hEr hNr hFr hMo hEo hNo hFo
  generalize mkM U1 (-(k : Int)) = Mu at *
  generalize mkE U1 (-(k : Int)) = Eu at *
  generalize mkM U2 (-(k : Int)) = Nu at *
  generalize mkE U2 (-(k : Int)) = Fu at *
  generalize mkM V1 (-(k : Int)) = Mv at *
  generalize mkE V1 (-(k : Int)) = Ev at *
  generalize mkM V2 (-(k : Int)) = Nv at *
  generalize mkE V2 (-(k : Int)) = Fv at *
  have G7 := Lib.hid g7
  have G8 := Lib.hid g8
  have G9 := Lib.hid g9
  have G10 := Lib.hid g10
  have G11 := Lib.hid g11
  clear g7 g8 g9 g10 g11
  refine (G7.out _ _ _ (isI_n (m := Mp) (e := Ep) (n := Np) (f := Fp) (s := .slice A3 (zl Mp) c3) (t := .slice B3 (zl Np) d3) (L.getN (by simp)) (L.getN (by simp))) (isI_n (m := Mq) (e := Eq) (n := Nq) (f := Fq) (s := .slice A4 (zl Mq) c4) (t := .slice B4 (zl Nq) d4) (L.getN (by simp)) (L.getN (by simp))) L.below).mono ?_
  rintro e w10 ⟨vv, rfl, ii, be⟩
  obtain ⟨A7, c7, B7, d7, rfl, ia, ib⟩ := ii.form
  replace L := ((L.step be).n ib).n ia
  clear be ii ia ib
  have hl9 := L.b0.lt
  replace L := L.varI w10.heap.size rfl (ng Mu) A7 (zl Mu) c7 Eu (ng Nu) B7 (zl Nu) d7 Fu
  have c10 := L.tl.b0.c60
  have c11 := L.tl.b0.c61
  have c12 := L.tl.b0.c62
  have c13 := L.tl.b0.c63
  have c14 := L.tl.b0.c64
  have c15 := L.tl.b0.c65
  have c40 := L.tl.tl.tl.tl.b0.c60
  have c41 := L.tl.tl.tl.tl.b0.c61
  have c42 := L.tl.tl.tl.tl.b0.c62
  have c43 := L.tl.tl.tl.tl.b0.c63
  have c44 := L.tl.tl.tl.tl.b0.c64
  have c45 := L.tl.tl.tl.tl.b0.c65
  go_wp2_with fail
  clear c10 c11 c12 c13 c14 c15 c40 c41 c42 c43 c44 c45
  obtain ⟨gu, hgu⟩ : ∃ g9, w10.heap.size = g9 := ⟨_, rfl⟩
  rw [hgu] at L hl9 ⊢
  clear hgu
  have hl_gu := hl9
  clear hl9
  refine (G8.out _ _ _ (isI_n (m := Mp) (e := Ep) (n := Np) (f := Fp) (s := .slice A3 (zl Mp) c3) (t := .slice B3 (zl Np) d3) (L.getN (by simp)) (L.getN (by simp))) (isI_n (m := Mo) (e := Eo) (n := No) (f := Fo) (s := .slice A6 (zl Mo) c6) (t := .slice B6 (zl No) d6) (L.getN (by simp)) (L.getN (by simp))) L.below).mono ?_
  rintro e w11 ⟨vv, rfl, ii, be⟩
  obtain ⟨A8, c8, B8, d8, rfl, ia, ib⟩ := ii.form
  replace L := ((L.step be).n ib).n ia
  clear be ii ia ib
  have hl9 := L.b0.lt
  replace L := L.varI w11.heap.size rfl (ng Mv) A8 (zl Mv) c8 Ev (ng Nv) B8 (zl Nv) d8 Fv
  go_wp2_with fail
  obtain ⟨gv, hgv⟩ : ∃ g9, w11.heap.size = g9 := ⟨_, rfl⟩
  rw [hgv] at L hl9 ⊢
  clear hgv
  have hl_gv := hl9
  clear hl9
  replace L := L.drew
  have c00 := L.b0.c60
  have c01 := L.b0.c61
  have c02 := L.b0.c62
  have c03 := L.b0.c63
  have c04 := L.b0.c64
  have c05 := L.b0.c65
  have c10 := L.tl.b0.c60
  have c11 := L.tl.b0.c61
  have c12 := L.tl.b0.c62
  have c13 := L.tl.b0.c63
  have c14 := L.tl.b0.c64
  have c15 := L.tl.b0.c65
  have c30 := L.tl.tl.tl.b0.c60
  have c31 := L.tl.tl.tl.b0.c61
  have c32 := L.tl.tl.tl.b0.c62
  have c33 := L.tl.tl.tl.b0.c63
  have c34 := L.tl.tl.tl.b0.c64
  have c35 := L.tl.tl.tl.b0.c65
  go_region_held3 (fun w' => w'.cell? ⟨gu, 0, none⟩ = some (.bool (ng Mu)) ∧ w'.cell? ⟨gu, 1, none⟩ = some (.slice A7 (zl Mu) c7) ∧ w'.cell? ⟨gu, 2, none⟩ = some (.int .i64 Eu) ∧ w'.cell? ⟨gu, 3, none⟩ = some (.bool (ng Nu)) ∧ w'.cell? ⟨gu, 4, none⟩ = some (.slice B7 (zl Nu) d7) ∧ w'.cell? ⟨gu, 5, none⟩ = some (.int .i64 Fu) ∧ w'.cell? ⟨gr, 0, none⟩ = some (.bool (ng Mr)) ∧ w'.cell? ⟨gr, 1, none⟩ = some (.slice A5 (zl Mr) c5) ∧ w'.cell? ⟨gr, 2, none⟩ = some (.int .i64 Er) ∧ w'.cell? ⟨gr, 3, none⟩ = some (.bool (ng Nr)) ∧ w'.cell? ⟨gr, 4, none⟩ = some (.slice B5 (zl Nr) d5) ∧ w'.cell? ⟨gr, 5, none⟩ = some (.int .i64 Fr) ∧ w'.cell? ⟨gv, 0, none⟩ = some (.bool (ng Mv)) ∧ w'.cell? ⟨gv, 1, none⟩ = some (.slice A8 (zl Mv) c8) ∧ w'.cell? ⟨gv, 2, none⟩ = some (.int .i64 Ev) ∧ w'.cell? ⟨gv, 3, none⟩ = some (.bool (ng Nv)) ∧ w'.cell? ⟨gv, 4, none⟩ = some (.slice B8 (zl Nv) d8) ∧ w'.cell? ⟨gv, 5, none⟩ = some (.int .i64 Fv)) (first | (with_reducible exact ⟨L.tl.b0.c60, L.tl.b0.c61, L.tl.b0.c62, L.tl.b0.c63, L.tl.b0.c64, L.tl.b0.c65, L.tl.tl.tl.b0.c60, L.tl.tl.tl.b0.c61, L.tl.tl.tl.b0.c62, L.tl.tl.tl.b0.c63, L.tl.tl.tl.b0.c64, L.tl.tl.tl.b0.c65, L.b0.c60, L.b0.c61, L.b0.c62, L.b0.c63, L.b0.c64, L.b0.c65⟩) | exact ⟨L.tl.b0.c60, L.tl.b0.c61, L.tl.b0.c62, L.tl.b0.c63, L.tl.b0.c64, L.tl.b0.c65, L.tl.tl.tl.b0.c60, L.tl.tl.tl.b0.c61, L.tl.tl.tl.b0.c62, L.tl.tl.tl.b0.c63, L.tl.tl.tl.b0.c64, L.tl.tl.tl.b0.c65, L.b0.c60, L.b0.c61, L.b0.c62, L.b0.c63, L.b0.c64, L.b0.c65⟩) (first | (go_at_call 27; (with_reducible refine (G9.out _ _ _ ?_ ?_).mono ?_); (· (refine isI_n (L.getN ?_) (L.getN ?_); all_goals (repeat (first | (with_reducible exact List.mem_cons_self) | apply List.mem_cons_of_mem)))); (· (refine isI_n (L.getN ?_) (L.getN ?_); all_goals (repeat (first | (with_reducible exact List.mem_cons_self) | apply List.mem_cons_of_mem)))); rintro e wh ⟨rfl, be⟩; replace L := L.step be; clear be) | (go_at_call 29; (with_reducible refine (G11.out _).mono ?_); rintro e wh ⟨vh, rfl, iq, be⟩; replace L := (L.step be).q iq; clear be iq) | (go_at_call 28; (with_reducible refine (G10.out _ _ _ ?_ ?_).mono ?_); (· (refine isI_n (L.getN ?_) (L.getN ?_); all_goals (repeat (first | (with_reducible exact List.mem_cons_self) | apply List.mem_cons_of_mem)))); (· (refine L.getQ ?_; (repeat (first | (with_reducible exact List.mem_cons_self) | apply List.mem_cons_of_mem)))); rintro e wh ⟨rfl, be⟩; replace L := L.step be; clear be))
  (try go_wp2_with fail)
  (try go_ret)
  exact ⟨rfl, L.below⟩

end Go.Proofs.YtnnfldkllhdhjaaGreatDoor
