/- The walk of LogarithmInverts: whatever the input, the law returns true and turns nothing that was there. -/
import Derived.Test.YtmlddkiccjpoeaaGreatDoorJI4
import Derived.Test.YtmlddkiccjpoeaaGreatDoorBaseWI
import Derived.Deep.RegionHeld3
import Derived.Deep.DrawnRows
namespace Go.Proofs.YtmlddkiccjpoeaaGreatDoor
open Go.RowKit
set_option linter.unusedVariables false
set_option linter.unusedSimpArgs false
set_option maxRecDepth 100000
attribute [local go_sem ↓] Go.wp_at_zero Go.wp_at_succ

set_option maxHeartbeats 64000000 in
theorem walk_LogarithmInverts (b0 : Bool) (a0 : Option Addr) (len0 cap0 : Nat) (z0 : List Nat) (f0 : Int) (bb0 : Bool) (aa0 : Option Addr) (ll0 cc0 : Nat) (zz0 : List Nat) (ff0 : Int) (a1 : Int) (w : World) (h0 : Sl w a0 len0 cap0 z0 ∧ -9223372036854775808 ≤ f0 ∧ f0 ≤ 9223372036854775807) (k0 : Sl w aa0 ll0 cc0 zz0 ∧ -9223372036854775808 ≤ ff0 ∧ ff0 ≤ 9223372036854775807) (h1 : -9223372036854775808 ≤ a1 ∧ a1 ≤ 9223372036854775807) (hT : Tab w) :
    Calls Tryz.prog 6 #[.agg #[.bool b0, .slice a0 len0 cap0, .int .i64 f0, .bool bb0, .slice aa0 ll0 cc0, .int .i64 ff0], .int .i64 a1] w (fun e w' => e = .returned (.bool true) ∧ Below w.heap.size w w') := by
  have HT := Lib.hid (fun W (hW : Below w.heap.size w W) => hT.mono hW)
  clear hT
  go_enter Tryz.func6, Tryz.ntmps6
  go_wp2_with fail
  have L := ((Lq.mk0 w).varI (w.heap.size) (by simp) b0 a0 len0 cap0 f0 bb0 aa0 ll0 cc0 ff0)
  (try go_wp2_with fail)
  refine (awake15_any _ (HT.out _ L.below)).mono ?_
  rintro e9 w1 ⟨rfl, be⟩
  replace L := L.step be
  clear be
  have c00 := L.b0.c60
  have c01 := L.b0.c61
  have c02 := L.b0.c62
  have c03 := L.b0.c63
  have c04 := L.b0.c64
  have c05 := L.b0.c65
  (try go_wp2_with fail)
  refine (s15arg_any b0 bb0 z0 zz0 a0 aa0 len0 cap0 ll0 cc0 f0 ff0 _ (h0.1.mono L.below) (k0.1.mono L.below) h0.2.1 h0.2.2 k0.2.1 k0.2.2).mono ?_
  rintro e9 w2 ⟨vx, ok, m, e, n, f, rfl, ii, be, hok⟩
  clear c00 c01 c02 c03 c04 c05
  obtain ⟨A, c, B, d, rfl, ia, ib⟩ := ii.form
  replace L := ((L.step be).n ib).n ia
  clear be ii ia ib
  have hl9 := L.b0.lt
  replace L := L.varI w2.heap.size rfl (ng m) A (zl m) c e (ng n) B (zl n) d f
  cases ok
  · go_wp2_with fail
    go_ret
    exact ⟨rfl, L.below⟩
  have HX := Lib.hid (hok rfl)
  clear hok
  obtain ⟨k, hk⟩ : ∃ r : Nat, a1 % 80 = (r : Int) := ⟨(a1 % 80).toNat, by omega⟩
  have o1 := fun W => mod_any a1 80 W (by omega) (by omega) h1.1 h1.2
  rw [hk] at o1
  have bk : k < 80 := by omega
  have MO1 := Lib.hid o1
  have HK := Lib.hid bk
  have hX := HX.out
  have b1 := hX.em
  have b2 := hX.en
  have z1 := hX.zm
  have z2 := hX.zn
  have g1 := fun v W h (hW : Below w.heap.size w W) => xln_yes m e n f k v W h (by omega) (by omega) (by omega) (by omega) hX.vm hX.vn hX.pm hX.small (by omega) (HT.out W hW)
  have G1 := Lib.hid g1
  clear o1 hk bk hX b1 b2 z1 z2 g1
  go_wp2_with fail
  obtain ⟨gx, hgx⟩ : ∃ g9, w2.heap.size = g9 := ⟨_, rfl⟩
  rw [hgx] at L hl9 ⊢
  clear hgx
  have hl_gx := hl9
  clear hl9
  refine (MO1.out _).mono ?_
  rintro e9 w' ⟨rfl, rfl⟩
  have c00 := L.b0.c60
  have c01 := L.b0.c61
  have c02 := L.b0.c62
  have c03 := L.b0.c63
  have c04 := L.b0.c64
  have c05 := L.b0.c65
  (try go_wp2_with fail)
  refine (G1.out _ _ (isI_n (m := m) (e := e) (n := n) (f := f) (s := .slice A (zl m) c) (t := .slice B (zl n) d) (L.getN (by simp)) (L.getN (by simp))) L.below).mono ?_
  intro e9 w3 hr9
  obtain ⟨a, b, hab9, vv, rfl, ii, be⟩ := hr9
  clear c00 c01 c02 c03 c04 c05
  obtain ⟨A2, c2, B2, d2, rfl, ia, ib⟩ := ii.form
  replace L := ((L.step be).n ib).n ia
  clear be ii ia ib
  have hl9 := L.b0.lt
  have ha := hab9 (by have := HK.out; omega) HX.out.sp.1 HX.out.sp.2
  clear hab9
  obtain ⟨Ma, hMa⟩ : ∃ z, mkM a (-(k : Int)) = z := ⟨_, rfl⟩
  obtain ⟨Ea, hEa⟩ : ∃ z, mkE a (-(k : Int)) = z := ⟨_, rfl⟩
  obtain ⟨Nb, hNb⟩ : ∃ z, mkM b (-(k : Int)) = z := ⟨_, rfl⟩
  obtain ⟨Fb, hFb⟩ : ∃ z, mkE b (-(k : Int)) = z := ⟨_, rfl⟩
  rw [hMa, hNb] at L ⊢
  rw [hEa, hFb]
  have Ha := Lib.hid (And.intro ha (And.intro (And.intro hMa hEa) (And.intro hNb hFb)))
  clear ha hMa hEa hNb hFb
  replace L := L.varI w3.heap.size rfl (ng Ma) A2 (zl Ma) c2 Ea (ng Nb) B2 (zl Nb) d2 Fb
  have c00 := L.b0.c60
  have c01 := L.b0.c61
  have c02 := L.b0.c62
  have c03 := L.b0.c63
  have c04 := L.b0.c64
  have c05 := L.b0.c65
  go_wp2_with fail
  clear c00 c01 c02 c03 c04 c05
  obtain ⟨gl, hgl⟩ : ∃ g9, w3.heap.size = g9 := ⟨_, rfl⟩
  rw [hgl] at L hl9 ⊢
  clear hgl
  have hl_gl := hl9
  clear hl9
  obtain ⟨⟨ea, eb, za, zb⟩, ⟨hMa, hEa⟩, hNb, hFb⟩ := Ha.out
  have bk := HK.out
  obtain ⟨p1, p2, p3, p4⟩ := gr15 (k := k) za (by omega) (by omega)
  obtain ⟨q1, q2, q3, q4⟩ := gr15 (k := k) zb (by omega) (by omega)
  rw [hMa] at p1
  rw [hMa, hEa] at p3 p4
  rw [hEa] at p2
  rw [hNb] at q1
  rw [hNb, hFb] at q3 q4
  rw [hFb] at q2
  have hab : dq Ma Ea ≤ dq Nb Fb := by rw [p4, q4]; exact ea.ab eb HX.out.le
  have h200 : dq Nb Fb ≤ 200 := by rw [q4]; exact eb.le200 HX.out.hi256
  have g2 := fun v W h (hW : Below w.heap.size w W) => xexp_yes Ma Ea Nb Fb k v W h (by omega) (by omega) (by omega) (by omega) p3 q3 (small15 (by omega) (by omega) (by omega) (by omega) ((dcm_le _ _ _ _).2 hab)) (by omega) h200 (HT.out W hW)
  have G2 := Lib.hid g2
  clear g2 ea eb za zb hMa hEa hNb hFb bk p1 p2 p3 p4 q1 q2 q3 q4 hab h200
  refine (G2.out _ _ (isI_n (m := Ma) (e := Ea) (n := Nb) (f := Fb) (s := .slice A2 (zl Ma) c2) (t := .slice B2 (zl Nb) d2) (L.getN (by simp)) (L.getN (by simp))) L.below).mono ?_
  intro e9 w4 hr9
  obtain ⟨a2, b2, ha2, hb2, vv, rfl, ii, be⟩ := hr9.ab
  obtain ⟨A3, c3, B3, d3, rfl, ia, ib⟩ := ii.form
  replace L := ((L.step be).n ib).n ia
  clear be ii ia ib hr9
  have hl9 := L.b0.lt
  obtain ⟨Mp, hMp⟩ : ∃ z, mkM a2 (-(k : Int)) = z := ⟨_, rfl⟩
  obtain ⟨Ep, hEp⟩ : ∃ z, mkE a2 (-(k : Int)) = z := ⟨_, rfl⟩
  obtain ⟨Np, hNp⟩ : ∃ z, mkM b2 (-(k : Int)) = z := ⟨_, rfl⟩
  obtain ⟨Fp, hFp⟩ : ∃ z, mkE b2 (-(k : Int)) = z := ⟨_, rfl⟩
  rw [hMp, hNp] at L ⊢
  rw [hEp, hFp]
  have Ha2 := Lib.hid (And.intro ha2 (And.intro hb2 (And.intro (And.intro hMp hEp) (And.intro hNp hFp))))
  clear ha2 hb2 hMp hEp hNp hFp
  replace L := L.varI w4.heap.size rfl (ng Mp) A3 (zl Mp) c3 Ep (ng Np) B3 (zl Np) d3 Fp
  have c00 := L.b0.c60
  have c01 := L.b0.c61
  have c02 := L.b0.c62
  have c03 := L.b0.c63
  have c04 := L.b0.c64
  have c05 := L.b0.c65
  have c20 := L.tl.tl.b0.c60
  have c21 := L.tl.tl.b0.c61
  have c22 := L.tl.tl.b0.c62
  have c23 := L.tl.tl.b0.c63
  have c24 := L.tl.tl.b0.c64
  have c25 := L.tl.tl.b0.c65
  go_wp2_with fail
  clear c00 c01 c02 c03 c04 c05 c20 c21 c22 c23 c24 c25
  obtain ⟨gp, hgp⟩ : ∃ g9, w4.heap.size = g9 := ⟨_, rfl⟩
  rw [hgp] at L hl9 ⊢
  clear hgp
  have hl_gp := hl9
  clear hl9
  have hX := HX.out
  have zx1 := hX.zm
  have zx2 := hX.zn
  have zx3 := hX.em
  have zx4 := hX.en
  obtain ⟨⟨ea, eb, za, zb⟩, ⟨hMa, hEa⟩, hNb, hFb⟩ := Ha.out
  obtain ⟨xa, xb, ⟨hMp, hEp⟩, hNp, hFp⟩ := Ha2.out
  have bk := HK.out
  obtain ⟨p1, p2, p3, p4⟩ := gr15 (k := k) za (by omega) (by omega)
  obtain ⟨q1, q2, q3, q4⟩ := gr15 (k := k) zb (by omega) (by omega)
  rw [hMa] at p1
  rw [hMa, hEa] at p3 p4
  rw [hEa] at p2
  rw [hNb] at q1
  rw [hNb, hFb] at q3 q4
  rw [hFb] at q2
  obtain ⟨r1, r2, r3, r4⟩ := gr15 (k := k) xa.2.1 (by omega) (by omega)
  obtain ⟨s1, s2, s3, s4⟩ := gr15 (k := k) xb.1 (by omega) (by omega)
  rw [hMp] at r1
  rw [hMp, hEp] at r3 r4
  rw [hEp] at r2
  rw [hNp] at s1
  rw [hNp, hFp] at s3 s4
  rw [hFp] at s2
  have pos := (dq_gt0 m e).2 hX.pm
  have hab : dq Ma Ea ≤ dq Nb Fb := by rw [p4, q4]; exact ea.ab eb hX.le
  have lo1 : dq Mp Ep ≤ dq m e := by
    have h9 := xa.2.2.1
    rw [p4] at h9
    rw [r4]
    exact h9.le ea.1
  have hi1 : dq n f ≤ dq Np Fp := by
    have h9 := xb.2.2
    rw [q4] at h9
    rw [s4]
    exact eb.2.le h9
  have lohi : dq Mp Ep ≤ dq Np Fp := Rat.le_trans lo1 (Rat.le_trans hX.le hi1)
  have g3 : ∀ v u W, IsI W v Mp Ep Np Fp → IsI W u m e n f → Calls Tryz.prog 20 #[v, u] W (RetI W 0) := fun v u W h k9 => by
    have s := r10cmp_any _ _ _ _ _ _ _ _ v u W h k9 (by omega) (by omega) (by omega) (by omega) (by omega) (by omega) (by omega) (by omega)
    rwa [icm_meet15 (Rat.le_trans hX.le hi1) (Rat.le_trans lo1 hX.le)] at s
  have hpn : 0 < Np := (dq_gt0 Np Fp).1 (by
    have := hX.le
    generalize dq m e = x1 at *
    generalize dq n f = x2 at *
    generalize dq Np Fp = x3 at *
    clear ea eb xa xb g3
    grind)
  have hm0 : 0 ≤ Mp := by
    have h9 := (dq_le_iff 0 a2 (-(k : Int))).2 xa.1
    rw [dq_zero, ← r4] at h9
    refine Int.not_lt.1 fun hlt => ?_
    have := (dq_lt0 Mp Ep).2 hlt
    exact absurd h9 (Rat.not_le.2 this)
  have g4 : Mp ≤ 0 → ∀ v W, IsI W v Mp Ep Np Fp → Calls Tryz.prog 13 #[v, .int .i64 (k : Int)] W (RetIE W 0 0 0 0 5) := fun hp v W h => xln_unk Mp Ep Np Fp (k : Int) v W h (okL_yes (by omega)) (by omega) (by omega) hpn hp
  have g5 : 0 < Mp → ∀ v W, IsI W v Mp Ep Np Fp → Below w.heap.size w W → Calls Tryz.prog 13 #[v, .int .i64 (k : Int)] W (RetLn W k Mp Ep Np Fp) := fun hp v W h hW => xln_yes Mp Ep Np Fp k v W h (by omega) (by omega) (by omega) (by omega) r3 s3 hp (small15 (by omega) (by omega) (by omega) (by omega) ((dcm_le _ _ _ _).2 lohi)) (by omega) (HT.out W hW)
  have hsp := And.intro (sp15 (m := Mp) (e := Ep) (by omega) (by omega)) (sp15 (m := Np) (e := Fp) (by omega) (by omega))
  -- the way back
  have g6 : ∀ (a3 b3 : Int), EnA k a3 (dq Mp Ep) → EnB k b3 (dq Np Fp) → AbP a3 (k + 19) → AbP b3 (k + 19) → ∀ v u W, IsI W v (mkM a3 (-(k : Int))) (mkE a3 (-(k : Int))) (mkM b3 (-(k : Int))) (mkE b3 (-(k : Int))) → IsI W u Ma Ea Nb Fb → Calls Tryz.prog 20 #[v, u] W (RetI W 0) := fun a3 b3 u1 u2 u3 u4 v u W h k9 => by
    obtain ⟨t1, t2, t3, t4⟩ := gr15 (k := k) u3 (by omega) (by omega)
    obtain ⟨v1, v2, v3, v4⟩ := gr15 (k := k) u4 (by omega) (by omega)
    have s := r10cmp_any _ _ _ _ _ _ _ _ v u W h k9 (by omega) (by omega) (by omega) (by omega) (by omega) (by omega) (by omega) (by omega)
    have c1 : dq a3 (-(k : Int)) ≤ dq Ma Ea := by
      have h9 := xa.2.2.1
      rw [← r4] at h9
      exact ln_le u1.1 h9
    have c2 : dq Nb Fb ≤ dq b3 (-(k : Int)) := by
      have h9 := xb.2.2
      rw [← s4] at h9
      exact ln_le h9 u2.2
    rwa [icm_meet15 (by rw [v4]; exact Rat.le_trans hab c2) (by rw [t4]; exact Rat.le_trans c1 hab)] at s
  have HSP := Lib.hid hsp
  clear hX zx1 zx2 zx3 zx4 ea eb za zb hMa hEa hNb hFb xa xb hMp hEp hNp hFp p1 p2 p3 p4 q1 q2 q3 q4 r1 r2 r3 r4 s1 s2 s3 s4 pos hab lo1 hi1 lohi hpn hm0 hsp bk Ha Ha2
  have G3 := Lib.hid g3
  have G4 := Lib.hid g4
  have G5 := Lib.hid g5
  have G6 := Lib.hid g6
  clear g3 g4 g5 g6
  refine (G3.out _ _ _ (isI_n (m := Mp) (e := Ep) (n := Np) (f := Fp) (s := .slice A3 (zl Mp) c3) (t := .slice B3 (zl Np) d3) (L.getN (by simp)) (L.getN (by simp))) (isI_n (m := m) (e := e) (n := n) (f := f) (s := .slice A (zl m) c) (t := .slice B (zl n) d) (L.getN (by simp)) (L.getN (by simp)))).mono ?_
  rintro e w5 ⟨rfl, be⟩
  replace L := L.step be
  clear be
  have c00 := L.b0.c60
  have c01 := L.b0.c61
  have c02 := L.b0.c62
  have c03 := L.b0.c63
  have c04 := L.b0.c64
  have c05 := L.b0.c65
  (try go_wp2_with fail)
  rcases Int.lt_or_le 0 Mp with hp | hp
  · have g7 := G5.out hp
    have G7 := Lib.hid g7
    clear g7 hp
    refine (G7.out _ _ (isI_n (m := Mp) (e := Ep) (n := Np) (f := Fp) (s := .slice A3 (zl Mp) c3) (t := .slice B3 (zl Np) d3) (L.getN (by simp)) (L.getN (by simp))) L.below).mono ?_
    intro e9 w6 hr9
    obtain ⟨a3, b3, hab9, vv, rfl, ii, be⟩ := hr9
    clear c00 c01 c02 c03 c04 c05
    obtain ⟨A4, c4, B4, d4, rfl, ia, ib⟩ := ii.form
    replace L := ((L.step be).n ib).n ia
    clear be ii ia ib
    have hl9 := L.b0.lt
    have ha3 := hab9 (by have := HK.out; omega) HSP.out.1 HSP.out.2
    clear hab9
    obtain ⟨Mc, hMc⟩ : ∃ z, mkM a3 (-(k : Int)) = z := ⟨_, rfl⟩
    obtain ⟨Ec, hEc⟩ : ∃ z, mkE a3 (-(k : Int)) = z := ⟨_, rfl⟩
    obtain ⟨Nd, hNd⟩ : ∃ z, mkM b3 (-(k : Int)) = z := ⟨_, rfl⟩
    obtain ⟨Fd, hFd⟩ : ∃ z, mkE b3 (-(k : Int)) = z := ⟨_, rfl⟩
    rw [hMc, hNd] at L ⊢
    rw [hEc, hFd]
    have Ha3 := Lib.hid (And.intro ha3 (And.intro (And.intro hMc hEc) (And.intro hNd hFd)))
    clear ha3 hMc hEc hNd hFd
    replace L := L.varI w6.heap.size rfl (ng Mc) A4 (zl Mc) c4 Ec (ng Nd) B4 (zl Nd) d4 Fd
    have c00 := L.b0.c60
    have c01 := L.b0.c61
    have c02 := L.b0.c62
    have c03 := L.b0.c63
    have c04 := L.b0.c64
    have c05 := L.b0.c65
    have c20 := L.tl.tl.b0.c60
    have c21 := L.tl.tl.b0.c61
    have c22 := L.tl.tl.b0.c62
    have c23 := L.tl.tl.b0.c63
    have c24 := L.tl.tl.b0.c64
    have c25 := L.tl.tl.b0.c65
    go_wp2_with fail
    clear c00 c01 c02 c03 c04 c05 c20 c21 c22 c23 c24 c25
    obtain ⟨gb, hgb⟩ : ∃ g9, w6.heap.size = g9 := ⟨_, rfl⟩
    rw [hgb] at L hl9 ⊢
    clear hgb
    have hl_gb := hl9
    clear hl9
    obtain ⟨⟨u1, u2, u3, u4⟩, ⟨hMc, hEc⟩, hNd, hFd⟩ := Ha3.out
    have g8 := G6.out a3 b3 u1 u2 u3 u4
    rw [hMc, hEc, hNd, hFd] at g8
    have G8 := Lib.hid g8
    clear g8 u1 u2 u3 u4 hMc hEc hNd hFd
    refine (G8.out _ _ _ (isI_n (m := Mc) (e := Ec) (n := Nd) (f := Fd) (s := .slice A4 (zl Mc) c4) (t := .slice B4 (zl Nd) d4) (L.getN (by simp)) (L.getN (by simp))) (isI_n (m := Ma) (e := Ea) (n := Nb) (f := Fb) (s := .slice A2 (zl Ma) c2) (t := .slice B2 (zl Nb) d2) (L.getN (by simp)) (L.getN (by simp)))).mono ?_
    rintro e w7 ⟨rfl, be⟩
    replace L := L.step be
    clear be
    (try go_wp2_with fail)
    go_ret
    exact ⟨rfl, L.below⟩
  · have g7 := G4.out hp
    have G7 := Lib.hid g7
    clear g7 hp
    refine (G7.out _ _ (isI_n (m := Mp) (e := Ep) (n := Np) (f := Fp) (s := .slice A3 (zl Mp) c3) (t := .slice B3 (zl Np) d3) (L.getN (by simp)) (L.getN (by simp)))).mono ?_
    rintro e9 w6 ⟨vv, rfl, ii, be⟩
    clear c00 c01 c02 c03 c04 c05
    obtain ⟨A4, c4, B4, d4, rfl, ia, ib⟩ := ii.form
    replace L := ((L.step be).n ib).n ia
    clear be ii ia ib
    replace L := L.varI w6.heap.size rfl (ng 0) A4 (zl 0) c4 0 (ng 0) B4 (zl 0) d4 0
    have c00 := L.b0.c60
    have c01 := L.b0.c61
    have c02 := L.b0.c62
    have c03 := L.b0.c63
    have c04 := L.b0.c64
    have c05 := L.b0.c65
    have c20 := L.tl.tl.b0.c60
    have c21 := L.tl.tl.b0.c61
    have c22 := L.tl.tl.b0.c62
    have c23 := L.tl.tl.b0.c63
    have c24 := L.tl.tl.b0.c64
    have c25 := L.tl.tl.b0.c65
    go_wp2_with fail
    go_ret
    exact ⟨rfl, L.below⟩

end Go.Proofs.YtmlddkiccjpoeaaGreatDoor
