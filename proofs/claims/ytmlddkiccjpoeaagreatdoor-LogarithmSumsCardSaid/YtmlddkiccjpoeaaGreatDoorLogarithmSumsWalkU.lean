/- The walk of LogarithmSums: whatever the input, the law returns true and turns nothing that was there. -/
import Derived.Test.YtmlddkiccjpoeaaGreatDoorJU4
import Derived.Test.YtmlddkiccjpoeaaGreatDoorBaseFU
import Derived.Test.YtmlddkiccjpoeaaGreatDoorBaseWU
import Derived.Deep.RegionHeld3
import Derived.Deep.DrawnRows
namespace Go.Proofs.YtmlddkiccjpoeaaGreatDoor
open Go.RowKit
set_option linter.unusedVariables false
set_option linter.unusedSimpArgs false
set_option maxRecDepth 100000
attribute [local go_sem ↓] Go.wp_at_zero Go.wp_at_succ

theorem gr15b {T : Int} {k j : Nat} (h : AbP T j) (hj : j ≤ 900) (hk : k ≤ 400) : zl (mkM T (-(k : Int))) ≤ 32 ∧ (-400 ≤ mkE T (-(k : Int)) ∧ mkE T (-(k : Int)) ≤ 932) ∧ Dv (mkM T (-(k : Int))) (mkE T (-(k : Int))) ∧ dq (mkM T (-(k : Int))) (mkE T (-(k : Int))) = dq T (-(k : Int)) := by
  obtain ⟨a1, a2, a3, a4, a5⟩ := nx (x := -(k : Int)) h (by omega) (by omega)
  exact ⟨by omega, by omega, a4, a5⟩
theorem sp15b {m e : Int} (hz : zl m ≤ 32) (he : -800 ≤ e ∧ e ≤ 1000) : (spK m e).natAbs ≤ 3000 := by
  obtain ⟨_, _, a, b⟩ := sp_rng (m := m) (e := e) hz
  omega
theorem ArgL.lo60 {m e n f : Int} (h : ArgL m e n f) : dq 1 (-60) ≤ dq m e := by
  have h1 := (dq_le_iff 1 m e).2 (by have := h.pm; omega)
  exact Rat.le_trans (dq_anti h.em.1) h1
/-- The image of a product of positive intervals. -/
theorem prod15 {a b c d : Rat} (ha : dq 1 (-60) ≤ a) (hab : a ≤ b) (hb : b ≤ dq 1 256) (hc : dq 1 (-60) ≤ c) (hcd : c ≤ d) (hd : d ≤ dq 1 256) :
    dq 1 (-120) ≤ min4 (a * c) (a * d) (b * c) (b * d) ∧ min4 (a * c) (a * d) (b * c) (b * d) ≤ b * d ∧ a * c ≤ max4 (a * c) (a * d) (b * c) (b * d) ∧ max4 (a * c) (a * d) (b * c) (b * d) ≤ dq 1 ((512 : Nat) : Int) ∧ min4 (a * c) (a * d) (b * c) (b * d) ≤ max4 (a * c) (a * d) (b * c) (b * d) := by
  have p := dq_pos (-60)
  have a0 : 0 ≤ a := Rat.le_trans (Rat.le_of_lt p) ha
  have b0 : 0 ≤ b := Rat.le_trans a0 hab
  have c0 : 0 ≤ c := Rat.le_trans (Rat.le_of_lt p) hc
  have d0 : 0 ≤ d := Rat.le_trans c0 hcd
  have e1 : dq 1 (-60) * dq 1 (-60) = dq 1 (-120) := by rw [← dq_mul]; rfl
  have e2 : dq 1 256 * dq 1 256 = dq 1 ((512 : Nat) : Int) := by rw [← dq_mul]; rfl
  have lo : ∀ x y : Rat, dq 1 (-60) ≤ x → dq 1 (-60) ≤ y → dq 1 (-120) ≤ x * y := fun x y hx hy => by
    rw [← e1]
    exact rmul_le hx hy (Rat.le_of_lt p) (Rat.le_trans (Rat.le_of_lt p) hx)
  have up : ∀ x y : Rat, x ≤ dq 1 256 → y ≤ dq 1 256 → 0 ≤ y → x * y ≤ dq 1 ((512 : Nat) : Int) := fun x y hx hy h0 => by
    rw [← e2]
    exact rmul_le hx hy h0 (Rat.le_of_lt (dq_pos 256))
  obtain ⟨m1, _, _, m4⟩ := min4_le (a * c) (a * d) (b * c) (b * d)
  obtain ⟨x1, _, _, _⟩ := le_max4 (a * c) (a * d) (b * c) (b * d)
  have hb' := Rat.le_trans ha hab
  have hd' := Rat.le_trans hc hcd
  have ha' := Rat.le_trans hab hb
  have hc' := Rat.le_trans hcd hd
  refine ⟨?_, m4, x1, ?_, Rat.le_trans m1 x1⟩
  · rcases min4_or (a * c) (a * d) (b * c) (b * d) with h | h | h | h <;> rw [h]
    · exact lo _ _ ha hc
    · exact lo _ _ ha hd'
    · exact lo _ _ hb' hc
    · exact lo _ _ hb' hd'
  · rcases max4_or (a * c) (a * d) (b * c) (b * d) with h | h | h | h <;> rw [h]
    · exact up _ _ ha' hc' c0
    · exact up _ _ ha' hd d0
    · exact up _ _ hb hc' c0
    · exact up _ _ hb hd d0

set_option maxHeartbeats 64000000 in
theorem walk_LogarithmSums (b0 : Bool) (a0 : Option Addr) (len0 cap0 : Nat) (z0 : List Nat) (f0 : Int) (bb0 : Bool) (aa0 : Option Addr) (ll0 cc0 : Nat) (zz0 : List Nat) (ff0 : Int) (b1 : Bool) (a1 : Option Addr) (len1 cap1 : Nat) (z1 : List Nat) (f1 : Int) (bb1 : Bool) (aa1 : Option Addr) (ll1 cc1 : Nat) (zz1 : List Nat) (ff1 : Int) (a2 : Int) (w : World) (h0 : Sl w a0 len0 cap0 z0 ∧ -9223372036854775808 ≤ f0 ∧ f0 ≤ 9223372036854775807) (k0 : Sl w aa0 ll0 cc0 zz0 ∧ -9223372036854775808 ≤ ff0 ∧ ff0 ≤ 9223372036854775807) (h1 : Sl w a1 len1 cap1 z1 ∧ -9223372036854775808 ≤ f1 ∧ f1 ≤ 9223372036854775807) (k1 : Sl w aa1 ll1 cc1 zz1 ∧ -9223372036854775808 ≤ ff1 ∧ ff1 ≤ 9223372036854775807) (h2 : -9223372036854775808 ≤ a2 ∧ a2 ≤ 9223372036854775807) (hT : Tab w) :
    Calls Tryz.prog 7 #[.agg #[.bool b0, .slice a0 len0 cap0, .int .i64 f0, .bool bb0, .slice aa0 ll0 cc0, .int .i64 ff0], .agg #[.bool b1, .slice a1 len1 cap1, .int .i64 f1, .bool bb1, .slice aa1 ll1 cc1, .int .i64 ff1], .int .i64 a2] w (fun e w' => e = .returned (.bool true) ∧ Below w.heap.size w w') := by
  have HT := Lib.hid (fun W (hW : Below w.heap.size w W) => hT.mono hW)
  clear hT
  go_enter Tryz.func7, Tryz.ntmps7
  go_wp2_with fail
  have L := (((Lq.mk0 w).varI (w.heap.size) (by simp) b0 a0 len0 cap0 f0 bb0 aa0 ll0 cc0 ff0).varI (w.heap.size + 1) (by simp) b1 a1 len1 cap1 f1 bb1 aa1 ll1 cc1 ff1)
  (try go_wp2_with fail)
  refine (awake15_any _ (HT.out _ L.below)).mono ?_
  rintro e9 w1 ⟨rfl, be⟩
  replace L := L.step be
  clear be
  have c00 := L.b0.c60
  have c01 := L.b0.c61
  have c02 := L.b0.c62
  have c03 := L.b0.c63
  have c04 := L.b0.c64
  have c05 := L.b0.c65
  have c10 := L.tl.b0.c60
  have c11 := L.tl.b0.c61
  have c12 := L.tl.b0.c62
  have c13 := L.tl.b0.c63
  have c14 := L.tl.b0.c64
  have c15 := L.tl.b0.c65
  (try go_wp2_with fail)
  refine (s15arg_any b0 bb0 z0 zz0 a0 aa0 len0 cap0 ll0 cc0 f0 ff0 _ (h0.1.mono L.below) (k0.1.mono L.below) h0.2.1 h0.2.2 k0.2.1 k0.2.2).mono ?_
  rintro e9 w2 ⟨vx, ok, m, e, n, f, rfl, ii, be, hok⟩
  clear c00 c01 c02 c03 c04 c05 c10 c11 c12 c13 c14 c15
  obtain ⟨A, c, B, d, rfl, ia, ib⟩ := ii.form
  replace L := ((L.step be).n ib).n ia
  clear be ii ia ib
  have hl9 := L.b0.lt
  replace L := L.varI w2.heap.size rfl (ng m) A (zl m) c e (ng n) B (zl n) d f
  have c10 := L.tl.b0.c60
  have c11 := L.tl.b0.c61
  have c12 := L.tl.b0.c62
  have c13 := L.tl.b0.c63
  have c14 := L.tl.b0.c64
  have c15 := L.tl.b0.c65
  go_wp2_with fail
  clear c10 c11 c12 c13 c14 c15
  obtain ⟨gx, hgx⟩ : ∃ g9, w2.heap.size = g9 := ⟨_, rfl⟩
  rw [hgx] at L hl9 ⊢
  clear hgx
  have hl_gx := hl9
  clear hl9
  refine (s15arg_any b1 bb1 z1 zz1 a1 aa1 len1 cap1 ll1 cc1 f1 ff1 _ (h1.1.mono L.below) (k1.1.mono L.below) h1.2.1 h1.2.2 k1.2.1 k1.2.2).mono ?_
  rintro e9 w3 ⟨vy, fine, m2, e2, n2, f2, rfl, ii, be, hfine⟩
  obtain ⟨A2, c2, B2, d2, rfl, ia, ib⟩ := ii.form
  replace L := ((L.step be).n ib).n ia
  clear be ii ia ib
  have hl9 := L.b0.lt
  replace L := L.varI w3.heap.size rfl (ng m2) A2 (zl m2) c2 e2 (ng n2) B2 (zl n2) d2 f2
  cases ok
  · go_wp2_with fail
    go_ret
    exact ⟨rfl, L.below⟩
  cases fine
  · go_wp2_with fail
    go_ret
    exact ⟨rfl, L.below⟩
  have hX := hok rfl
  have hY := hfine rfl
  clear hok hfine
  obtain ⟨k, hk⟩ : ∃ r : Nat, a2 % 80 = (r : Int) := ⟨(a2 % 80).toNat, by omega⟩
  have o1 := fun W => mod_any a2 80 W (by omega) (by omega) h2.1 h2.2
  rw [hk] at o1
  have bk : k < 80 := by omega
  have MO1 := Lib.hid o1
  obtain ⟨K, hK⟩ : ∃ K, k + 250 = K := ⟨_, rfl⟩
  have wq : IntKind.i64.wrap ((k : Int) + 250) = (K : Int) := by rw [IntKind.wrap_i64]; omega
  obtain ⟨i1, i2, i3, i4, i5⟩ := prod15 hX.lo60 hX.le hX.hi256 hY.lo60 hY.le hY.hi256
  obtain ⟨S1, S2, rs, as1, as2, cs1, cs2, cs3, cs4⟩ := en14 (k := K) (J := 512) (by omega) (by omega) (Rat.le_trans (Rat.le_trans (Rat.neg_le_neg (Rat.le_of_lt (dq_pos _))) (by rw [Rat.neg_zero]; exact Rat.le_of_lt (dq_pos (-120)))) i1) i4 i5
  obtain ⟨r1, r2, r3, r4⟩ := gr15b (k := K) as1 (by omega) (by omega)
  obtain ⟨s1, s2, s3, s4⟩ := gr15b (k := K) as2 (by omega) (by omega)
  have hpos : 0 < dq S1 (-(K : Int)) := by
    have h8 := dq_anti (a := -(K : Int)) (b := -121) (by omega)
    have h9 : dq 1 (-120) = 2 * dq 1 (-121) := by rw [show (-120 : Int) = 1 + -121 from rfl, dq_add1]; congr 1
    have h7 := dq_pos (-121)
    rw [h9] at i1
    have h6 := Rat.le_trans i1 cs2
    generalize dq 1 (-(K : Int)) = u at *
    generalize dq 1 (-121) = v at *
    generalize dq S1 (-(K : Int)) = s at *
    clear cs1 cs3 cs4 rs
    grind
  obtain ⟨Mp, hMp⟩ : ∃ z, mkM S1 (-(K : Int)) = z := ⟨_, rfl⟩
  obtain ⟨Ep, hEp⟩ : ∃ z, mkE S1 (-(K : Int)) = z := ⟨_, rfl⟩
  obtain ⟨Np, hNp⟩ : ∃ z, mkM S2 (-(K : Int)) = z := ⟨_, rfl⟩
  obtain ⟨Fp, hFp⟩ : ∃ z, mkE S2 (-(K : Int)) = z := ⟨_, rfl⟩
  rw [hMp] at r1
  rw [hMp, hEp] at r3 r4
  rw [hEp] at r2
  rw [hNp] at s1
  rw [hNp, hFp] at s3 s4
  rw [hFp] at s2
  rw [← r4] at cs1 hpos
  rw [← s4] at cs3
  have pm := (dq_gt0 Mp Ep).1 hpos
  have lp : dq Mp Ep ≤ dq Np Fp := Rat.le_trans cs1 (Rat.le_trans i5 cs3)
  have p1 : dq Mp Ep ≤ dq n f * dq n2 f2 := Rat.le_trans cs1 i2
  have p2 : dq m e * dq m2 e2 ≤ dq Np Fp := Rat.le_trans i3 cs3
  have z1 := hX.zm
  have z2 := hX.zn
  have z3 := hX.em
  have z4 := hX.en
  have z5 := hY.zm
  have z6 := hY.zn
  have z7 := hY.em
  have z8 := hY.en
  have g1 := fun v u W h k9 (hW : Below w.heap.size w W) => amul_any m e n f m2 e2 n2 f2 (K : Int) v u W h k9 (by omega) (by omega) (by omega) (by omega) (by omega) (by omega) (by omega) (by omega) ((dcm_le _ _ _ _).2 hX.le) ((dcm_le _ _ _ _).2 hY.le) (by omega) (by omega) (HT.out W hW)
  simp only [rs] at g1
  rw [hMp, hEp, hNp, hFp] at g1
  have g2 := fun v W h (hW : Below w.heap.size w W) => xln_yes m e n f k v W h (by omega) (by omega) (by omega) (by omega) hX.vm hX.vn hX.pm hX.small (by omega) (HT.out W hW)
  have g3 := fun v W h (hW : Below w.heap.size w W) => xln_yes m2 e2 n2 f2 k v W h (by omega) (by omega) (by omega) (by omega) hY.vm hY.vn hY.pm hY.small (by omega) (HT.out W hW)
  have g4 := fun v W h (hW : Below w.heap.size w W) => xln_yes Mp Ep Np Fp k v W h (by omega) (by omega) (by omega) (by omega) r3 s3 pm (small15 (by omega) (by omega) (by omega) (by omega) ((dcm_le _ _ _ _).2 lp)) (by omega) (HT.out W hW)
  have sp3 := And.intro (sp15b (m := Mp) (e := Ep) (by omega) (by omega)) (sp15b (m := Np) (e := Fp) (by omega) (by omega))
  have g5 := fun W => of15_any 2 2 W (by omega) (by omega)
  rw [n_2.1, n_2.2] at g5
  have dv2 : Dv 1 1 := Or.inr ⟨by decide, by decide +kernel⟩
  have zo := zl_one
  have g6 := fun v W h (hW : Below w.heap.size w W) => xln_yes 1 1 1 1 k v W h (by omega) (by omega) (by omega) (by omega) dv2 dv2 (by omega) (small15 (by omega) (by omega) (by omega) (by omega) (by rw [dcm_self]; omega)) (by omega) (HT.out W hW)
  obtain ⟨T, hT2, hC⟩ := cn_ln (k := k) (by omega)
  have g7 := fun W (hW : Below w.heap.size w W) => cln_yes k T W (by omega) (HT.out W hW) hT2
  have g8 := fun W => of15_any 1 1 W (by omega) (by omega)
  rw [n_1.1, n_1.2] at g8
  have dv1 : Dv 1 0 := Or.inr ⟨by decide, by decide +kernel⟩
  have g9 := fun v W h (hW : Below w.heap.size w W) => xln_yes 1 0 1 0 k v W h (by omega) (by omega) (by omega) (by omega) dv1 dv1 (by omega) (small15 (by omega) (by omega) (by omega) (by omega) (by rw [dcm_self]; omega)) (by omega) (HT.out W hW)
  have sp4 := sp15b (m := 1) (e := 1) (by omega) (by omega)
  have sp5 := sp15b (m := 1) (e := 0) (by omega) (by omega)
  have cl : UpE (dq (loC T) (-(k : Int))) 2 := ln_up.mono hC.lo
  have ch : LoE 2 (dq (hiC T) (-(k : Int))) := ln_lo.mono hC.hi (by decide +kernel)
  obtain ⟨l1, l2, l3, l4⟩ := gr15 (k := k) hC.al (by omega) (by omega)
  obtain ⟨o1', o2', o3', o4'⟩ := gr15 (k := k) hC.ah (by omega) (by omega)
  obtain ⟨Mc, hMc⟩ : ∃ z, mkM (loC T) (-(k : Int)) = z := ⟨_, rfl⟩
  obtain ⟨Ec, hEc⟩ : ∃ z, mkE (loC T) (-(k : Int)) = z := ⟨_, rfl⟩
  obtain ⟨Nc, hNc⟩ : ∃ z, mkM (hiC T) (-(k : Int)) = z := ⟨_, rfl⟩
  obtain ⟨Fc, hFc⟩ : ∃ z, mkE (hiC T) (-(k : Int)) = z := ⟨_, rfl⟩
  rw [hMc, hEc, hNc, hFc] at g7
  rw [hMc] at l1
  rw [hMc, hEc] at l4
  rw [hEc] at l2
  rw [hNc] at o1'
  rw [hNc, hFc] at o4'
  rw [hFc] at o2'
  rw [← l4] at cl
  rw [← o4'] at ch
  have HC := Lib.hid (And.intro cl (And.intro ch (And.intro (And.intro l1 l2) (And.intro o1' o2'))))
  have HP := Lib.hid (And.intro lp (And.intro p1 (And.intro p2 sp3)))
  have HO := Lib.hid (And.intro sp4 sp5)
  have HX := Lib.hid hX
  have HY := Lib.hid hY
  have HK := Lib.hid bk
  have G1 := Lib.hid g1
  have G2 := Lib.hid g2
  have G3 := Lib.hid g3
  have G4 := Lib.hid g4
  have G5 := Lib.hid g5
  have G6 := Lib.hid g6
  have G7 := Lib.hid g7
  have G8 := Lib.hid g8
  have G9 := Lib.hid g9
  clear g1 g2 g3 g4 g5 g6 g7 g8 g9 o1 hk bk hK i1 i2 i3 i4 i5 rs as1 as2 cs1 cs2 cs3 cs4 r1 r2 r3 r4 s1 s2 s3 s4 hpos hMp hEp hNp hFp pm lp p1 p2 z1 z2 z3 z4 z5 z6 z7 z8 sp3 sp4 sp5 dv1 dv2 zo hT2 hC cl ch l1 l2 l3 l4 o1' o2' o3' o4' hMc hEc hNc hFc hX hY
  go_wp2_with fail
  obtain ⟨gy, hgy⟩ : ∃ g9, w3.heap.size = g9 := ⟨_, rfl⟩
  rw [hgy] at L hl9 ⊢
  clear hgy
  have hl_gy := hl9
  clear hl9
  refine (MO1.out _).mono ?_
  rintro e9 w' ⟨rfl, rfl⟩
  have c00 := L.b0.c60
  have c01 := L.b0.c61
  have c02 := L.b0.c62
  have c03 := L.b0.c63
  have c04 := L.b0.c64
  have c05 := L.b0.c65
  have c10 := L.tl.b0.c60
  have c11 := L.tl.b0.c61
  have c12 := L.tl.b0.c62
  have c13 := L.tl.b0.c63
  have c14 := L.tl.b0.c64
  have c15 := L.tl.b0.c65
  (try go_wp2_with fail)
  refine (G1.out _ _ _ (isI_n (m := m) (e := e) (n := n) (f := f) (s := .slice A (zl m) c) (t := .slice B (zl n) d) (L.getN (by simp)) (L.getN (by simp))) (isI_n (m := m2) (e := e2) (n := n2) (f := f2) (s := .slice A2 (zl m2) c2) (t := .slice B2 (zl n2) d2) (L.getN (by simp)) (L.getN (by simp))) L.below).mono ?_
  rintro e w4 ⟨vv, rfl, ii, be⟩
  clear c00 c01 c02 c03 c04 c05 c10 c11 c12 c13 c14 c15
  obtain ⟨Ap, cp, Bp, dp, rfl, ia, ib⟩ := ii.form
  replace L := ((L.step be).n ib).n ia
  clear be ii ia ib
  have hl9 := L.b0.lt
  replace L := L.varI w4.heap.size rfl (ng Mp) Ap (zl Mp) cp Ep (ng Np) Bp (zl Np) dp Fp
  have c20 := L.tl.tl.b0.c60
  have c21 := L.tl.tl.b0.c61
  have c22 := L.tl.tl.b0.c62
  have c23 := L.tl.tl.b0.c63
  have c24 := L.tl.tl.b0.c64
  have c25 := L.tl.tl.b0.c65
  go_wp2_with fail
  clear c20 c21 c22 c23 c24 c25
  obtain ⟨gp, hgp⟩ : ∃ g9, w4.heap.size = g9 := ⟨_, rfl⟩
  rw [hgp] at L hl9 ⊢
  clear hgp
  have hl_gp := hl9
  clear hl9
  refine (G2.out _ _ (isI_n (m := m) (e := e) (n := n) (f := f) (s := .slice A (zl m) c) (t := .slice B (zl n) d) (L.getN (by simp)) (L.getN (by simp))) L.below).mono ?_
  intro e9 w5 hr9
  obtain ⟨xa, xb, hab9, vv, rfl, ii, be⟩ := hr9
  obtain ⟨A3, c3, B3, d3, rfl, ia, ib⟩ := ii.form
  replace L := ((L.step be).n ib).n ia
  clear be ii ia ib
  have hl9 := L.b0.lt
  have hxa := hab9 (by have := HK.out; omega) HX.out.sp.1 HX.out.sp.2
  clear hab9
  obtain ⟨M3, hM3⟩ : ∃ z, mkM xa (-(k : Int)) = z := ⟨_, rfl⟩
  obtain ⟨E3, hE3⟩ : ∃ z, mkE xa (-(k : Int)) = z := ⟨_, rfl⟩
  obtain ⟨N3, hN3⟩ : ∃ z, mkM xb (-(k : Int)) = z := ⟨_, rfl⟩
  obtain ⟨F3, hF3⟩ : ∃ z, mkE xb (-(k : Int)) = z := ⟨_, rfl⟩
  rw [hM3, hN3] at L ⊢
  rw [hE3, hF3]
  have Hxa := Lib.hid (And.intro hxa (And.intro (And.intro hM3 hE3) (And.intro hN3 hF3)))
  clear hxa hM3 hE3 hN3 hF3
  replace L := L.varI w5.heap.size rfl (ng M3) A3 (zl M3) c3 E3 (ng N3) B3 (zl N3) d3 F3
  have c20 := L.tl.tl.b0.c60
  have c21 := L.tl.tl.b0.c61
  have c22 := L.tl.tl.b0.c62
  have c23 := L.tl.tl.b0.c63
  have c24 := L.tl.tl.b0.c64
  have c25 := L.tl.tl.b0.c65
  go_wp2_with fail
  clear c20 c21 c22 c23 c24 c25
  obtain ⟨gl, hgl⟩ : ∃ g9, w5.heap.size = g9 := ⟨_, rfl⟩
  rw [hgl] at L hl9 ⊢
  clear hgl
  have hl_gl := hl9
  clear hl9
  refine (G3.out _ _ (isI_n (m := m2) (e := e2) (n := n2) (f := f2) (s := .slice A2 (zl m2) c2) (t := .slice B2 (zl n2) d2) (L.getN (by simp)) (L.getN (by simp))) L.below).mono ?_
  intro e9 w6 hr9
  obtain ⟨ya, yb, hab9, vv, rfl, ii, be⟩ := hr9
  obtain ⟨A4, c4, B4, d4, rfl, ia, ib⟩ := ii.form
  replace L := ((L.step be).n ib).n ia
  clear be ii ia ib
  have hl9 := L.b0.lt
  have hya := hab9 (by have := HK.out; omega) HY.out.sp.1 HY.out.sp.2
  clear hab9
  obtain ⟨M4, hM4⟩ : ∃ z, mkM ya (-(k : Int)) = z := ⟨_, rfl⟩
  obtain ⟨E4, hE4⟩ : ∃ z, mkE ya (-(k : Int)) = z := ⟨_, rfl⟩
  obtain ⟨N4, hN4⟩ : ∃ z, mkM yb (-(k : Int)) = z := ⟨_, rfl⟩
  obtain ⟨F4, hF4⟩ : ∃ z, mkE yb (-(k : Int)) = z := ⟨_, rfl⟩
  rw [hM4, hN4] at L ⊢
  rw [hE4, hF4]
  have Hya := Lib.hid (And.intro hya (And.intro (And.intro hM4 hE4) (And.intro hN4 hF4)))
  clear hya hM4 hE4 hN4 hF4
  replace L := L.varI w6.heap.size rfl (ng M4) A4 (zl M4) c4 E4 (ng N4) B4 (zl N4) d4 F4
  have c20 := L.tl.tl.b0.c60
  have c21 := L.tl.tl.b0.c61
  have c22 := L.tl.tl.b0.c62
  have c23 := L.tl.tl.b0.c63
  have c24 := L.tl.tl.b0.c64
  have c25 := L.tl.tl.b0.c65
  go_wp2_with fail
  clear c20 c21 c22 c23 c24 c25
  obtain ⟨gm, hgm⟩ : ∃ g9, w6.heap.size = g9 := ⟨_, rfl⟩
  rw [hgm] at L hl9 ⊢
  clear hgm
  have hl_gm := hl9
  clear hl9
  refine (G4.out _ _ (isI_n (m := Mp) (e := Ep) (n := Np) (f := Fp) (s := .slice Ap (zl Mp) cp) (t := .slice Bp (zl Np) dp) (L.getN (by simp)) (L.getN (by simp))) L.below).mono ?_
  intro e9 w7 hr9
  obtain ⟨pa, pb, hab9, vv, rfl, ii, be⟩ := hr9
  obtain ⟨A5, c5, B5, d5, rfl, ia, ib⟩ := ii.form
  replace L := ((L.step be).n ib).n ia
  clear be ii ia ib
  have hl9 := L.b0.lt
  have hpa := hab9 (by have := HK.out; omega) HP.out.2.2.2.1 HP.out.2.2.2.2
  clear hab9
  obtain ⟨M5, hM5⟩ : ∃ z, mkM pa (-(k : Int)) = z := ⟨_, rfl⟩
  obtain ⟨E5, hE5⟩ : ∃ z, mkE pa (-(k : Int)) = z := ⟨_, rfl⟩
  obtain ⟨N5, hN5⟩ : ∃ z, mkM pb (-(k : Int)) = z := ⟨_, rfl⟩
  obtain ⟨F5, hF5⟩ : ∃ z, mkE pb (-(k : Int)) = z := ⟨_, rfl⟩
  rw [hM5, hN5] at L ⊢
  rw [hE5, hF5]
  have Hpa := Lib.hid (And.intro hpa (And.intro (And.intro hM5 hE5) (And.intro hN5 hF5)))
  clear hpa hM5 hE5 hN5 hF5
  replace L := L.varI w7.heap.size rfl (ng M5) A5 (zl M5) c5 E5 (ng N5) B5 (zl N5) d5 F5
  have c10 := L.tl.b0.c60
  have c11 := L.tl.b0.c61
  have c12 := L.tl.b0.c62
  have c13 := L.tl.b0.c63
  have c14 := L.tl.b0.c64
  have c15 := L.tl.b0.c65
  have c20 := L.tl.tl.b0.c60
  have c21 := L.tl.tl.b0.c61
  have c22 := L.tl.tl.b0.c62
  have c23 := L.tl.tl.b0.c63
  have c24 := L.tl.tl.b0.c64
  have c25 := L.tl.tl.b0.c65
  go_wp2_with fail
  clear c10 c11 c12 c13 c14 c15 c20 c21 c22 c23 c24 c25
  obtain ⟨gn, hgn⟩ : ∃ g9, w7.heap.size = g9 := ⟨_, rfl⟩
  rw [hgn] at L hl9 ⊢
  clear hgn
  have hl_gn := hl9
  clear hl9
  obtain ⟨⟨ea, eb, za, zb⟩, ⟨hM3, hE3⟩, hN3, hF3⟩ := Hxa.out
  obtain ⟨⟨fa, fb, ya', yb'⟩, ⟨hM4, hE4⟩, hN4, hF4⟩ := Hya.out
  have bk := HK.out
  obtain ⟨p1, p2, p3, p4⟩ := gr15 (k := k) za (by omega) (by omega)
  obtain ⟨q1, q2, q3, q4⟩ := gr15 (k := k) zb (by omega) (by omega)
  obtain ⟨r1, r2, r3, r4⟩ := gr15 (k := k) ya' (by omega) (by omega)
  obtain ⟨s1, s2, s3, s4⟩ := gr15 (k := k) yb' (by omega) (by omega)
  rw [hM3] at p1
  rw [hM3, hE3] at p3 p4
  rw [hE3] at p2
  rw [hN3] at q1
  rw [hN3, hF3] at q3 q4
  rw [hF3] at q2
  rw [hM4] at r1
  rw [hM4, hE4] at r3 r4
  rw [hE4] at r2
  rw [hN4] at s1
  rw [hN4, hF4] at s3 s4
  rw [hF4] at s2
  have hab : dq M3 E3 ≤ dq N3 F3 := by rw [p4, q4]; exact ea.ab eb HX.out.le
  have hcd : dq M4 E4 ≤ dq N4 F4 := by rw [r4, s4]; exact fa.ab fb HY.out.le
  have bd : ∀ {T : Int} {j : Nat}, AbP T (k + 19) → -dq 1 ((40 : Nat) : Int) ≤ dq T (-(k : Int)) ∧ dq T (-(k : Int)) ≤ dq 1 ((40 : Nat) : Int) := fun {T _} h => by
    have e := unit_up k 40
    rw [e, ← dq_neg, dq_le_iff, dq_le_iff]
    unfold AbP at h
    have h1 : 2 ^ (k + 40) = 2 ^ (k + 19) * 2 ^ 21 := by rw [← Nat.pow_add]
    have h2 : ((2 ^ (k + 40) : Nat) : Int) = 2 ^ (k + 40) := by push_cast; rfl
    have h3 : 2 ^ (k + 19) ≤ 2 ^ (k + 40) := Nat.pow_le_pow_right (by omega) (by omega)
    omega
  obtain ⟨t1, t2⟩ := bd (j := 0) za
  obtain ⟨t3, t4⟩ := bd (j := 0) zb
  obtain ⟨t5, t6⟩ := bd (j := 0) ya'
  obtain ⟨t7, t8⟩ := bd (j := 0) yb'
  clear bd
  have e41 : dq 1 ((41 : Nat) : Int) = dq 1 ((40 : Nat) : Int) + dq 1 ((40 : Nat) : Int) := by
    rw [show (((41 : Nat) : Int)) = 1 + ((40 : Nat) : Int) from rfl, dq_add1]
    have v : dq 1 1 = 2 := by decide +kernel
    rw [v]
    grind
  rw [← p4] at t1 t2
  rw [← q4] at t3 t4
  rw [← r4] at t5 t6
  rw [← s4] at t7 t8
  have v1 : -dq 1 ((41 : Nat) : Int) ≤ dq M3 E3 + dq M4 E4 := by
    rw [e41]
    generalize dq M3 E3 = x1 at *
    generalize dq M4 E4 = x2 at *
    generalize dq 1 ((40 : Nat) : Int) = x3 at *
    clear ea eb fa fb
    grind
  have v2 : dq N3 F3 + dq N4 F4 ≤ dq 1 ((41 : Nat) : Int) := by
    rw [e41]
    generalize dq N3 F3 = x1 at *
    generalize dq N4 F4 = x2 at *
    generalize dq 1 ((40 : Nat) : Int) = x3 at *
    clear ea eb fa fb
    grind
  have v3 : dq M3 E3 + dq M4 E4 ≤ dq N3 F3 + dq N4 F4 := Rat.le_trans ((Rat.add_le_add_right (c := dq M4 E4)).2 hab) ((Rat.add_le_add_left (c := dq N3 F3)).2 hcd)
  obtain ⟨S1, S2, rs, as1, as2, cs1, cs2, cs3, cs4⟩ := en14 (k := k) (J := 41) (by omega) (by omega) v1 v2 v3
  have g10 := fun v u W h k9 (hW : Below w.heap.size w W) => aadd_any M3 E3 N3 F3 M4 E4 N4 F4 (k : Int) v u W h k9 (by omega) (by omega) (by omega) (by omega) (by omega) (by omega) (by omega) (by omega) ((dcm_le _ _ _ _).2 hab) ((dcm_le _ _ _ _).2 hcd) (by omega) (by omega) (HT.out W hW)
  simp only [rs] at g10
  have ux : UpE (dq M3 E3 + dq M4 E4) (dq m e * dq m2 e2) := by rw [p4, r4]; exact ea.1.add fa.1
  have lx : LoE (dq n f * dq n2 f2) (dq N3 F3 + dq N4 F4) := by rw [q4, s4]; exact eb.2.add fb.2 ((dq_gt0 m e).2 HX.out.pm |> fun h => by have := HX.out.le; generalize dq m e = x1 at *; generalize dq n f = x2 at *; clear ea eb fa fb ux rs; grind) ((dq_gt0 m2 e2).2 HY.out.pm |> fun h => by have := HY.out.le; generalize dq m2 e2 = x1 at *; generalize dq n2 f2 = x2 at *; clear ea eb fa fb ux rs; grind)
  obtain ⟨a1', a2', a3', a4'⟩ := gr15 (k := k) as1 (by omega) (by omega)
  obtain ⟨b1', b2', b3', b4'⟩ := gr15 (k := k) as2 (by omega) (by omega)
  obtain ⟨Ms, hMs⟩ : ∃ z, mkM S1 (-(k : Int)) = z := ⟨_, rfl⟩
  obtain ⟨Es, hEs⟩ : ∃ z, mkE S1 (-(k : Int)) = z := ⟨_, rfl⟩
  obtain ⟨Ns, hNs⟩ : ∃ z, mkM S2 (-(k : Int)) = z := ⟨_, rfl⟩
  obtain ⟨Fs, hFs⟩ : ∃ z, mkE S2 (-(k : Int)) = z := ⟨_, rfl⟩
  rw [hMs, hEs, hNs, hFs] at g10
  rw [hMs] at a1'
  rw [hMs, hEs] at a4'
  rw [hEs] at a2'
  rw [hNs] at b1'
  rw [hNs, hFs] at b4'
  rw [hFs] at b2'
  rw [← a4'] at cs1
  rw [← b4'] at cs3
  have HS := Lib.hid (And.intro (ux.mono cs1) (And.intro (lx.mono cs3 (Rat.le_of_lt (Rat.mul_pos ((dq_gt0 n f).2 (by have h8 := HX.out.le; have h9 := (dq_gt0 m e).2 HX.out.pm; refine (dq_gt0 n f).1 ?_; generalize dq m e = x1 at *; generalize dq n f = x2 at *; clear ea eb fa fb ux lx rs; grind)) ((dq_gt0 n2 f2).2 (by have h8 := HY.out.le; have h9 := (dq_gt0 m2 e2).2 HY.out.pm; refine (dq_gt0 n2 f2).1 ?_; generalize dq m2 e2 = x1 at *; generalize dq n2 f2 = x2 at *; clear ea eb fa fb ux lx rs; grind))))) (And.intro (And.intro a1' a2') (And.intro b1' b2'))))
  have G10 := Lib.hid g10
  clear g10 ea eb za zb fa fb ya' yb' hM3 hE3 hN3 hF3 hM4 hE4 hN4 hF4 bk p1 p2 p3 p4 q1 q2 q3 q4 r1 r2 r3 r4 s1 s2 s3 s4 hab hcd t1 t2 t3 t4 t5 t6 t7 t8 e41 v1 v2 v3 rs as1 as2 cs1 cs2 cs3 cs4 ux lx a1' a2' a3' a4' b1' b2' b3' b4' hMs hEs hNs hFs
  refine (G10.out _ _ _ (isI_n (m := M3) (e := E3) (n := N3) (f := F3) (s := .slice A3 (zl M3) c3) (t := .slice B3 (zl N3) d3) (L.getN (by simp)) (L.getN (by simp))) (isI_n (m := M4) (e := E4) (n := N4) (f := F4) (s := .slice A4 (zl M4) c4) (t := .slice B4 (zl N4) d4) (L.getN (by simp)) (L.getN (by simp))) L.below).mono ?_
  rintro e w8 ⟨vv, rfl, ii, be⟩
  obtain ⟨As, cs, Bs, ds, rfl, ia, ib⟩ := ii.form
  replace L := ((L.step be).n ib).n ia
  clear be ii ia ib
  have hl9 := L.b0.lt
  replace L := L.varI w8.heap.size rfl (ng Ms) As (zl Ms) cs Es (ng Ns) Bs (zl Ns) ds Fs
  go_wp2_with fail
  obtain ⟨gs, hgs⟩ : ∃ g9, w8.heap.size = g9 := ⟨_, rfl⟩
  rw [hgs] at L hl9 ⊢
  clear hgs
  have hl_gs := hl9
  clear hl9
  refine (G5.out _).mono ?_
  rintro e w9 ⟨vv, rfl, ii, be⟩
  obtain ⟨A6, c6, B6, d6, rfl, ia, ib⟩ := ii.form
  replace L := ((L.step be).n ib).n ia
  clear be ii ia ib
  (try go_wp2_with fail)
  refine (G6.out _ _ (isI_n (m := 1) (e := 1) (n := 1) (f := 1) (s := .slice A6 (zl 1) c6) (t := .slice B6 (zl 1) d6) (L.getN (by simp)) (L.getN (by simp))) L.below).mono ?_
  intro e9 w10 hr9
  obtain ⟨ta, tb, hab9, vv, rfl, ii, be⟩ := hr9
  obtain ⟨A7, c7, B7, d7, rfl, ia, ib⟩ := ii.form
  replace L := ((L.step be).n ib).n ia
  clear be ii ia ib
  have hl9 := L.b0.lt
  have hta := hab9 (by have := HK.out; omega) HO.out.1 HO.out.1
  clear hab9
  obtain ⟨M7, hM7⟩ : ∃ z, mkM ta (-(k : Int)) = z := ⟨_, rfl⟩
  obtain ⟨E7, hE7⟩ : ∃ z, mkE ta (-(k : Int)) = z := ⟨_, rfl⟩
  obtain ⟨N7, hN7⟩ : ∃ z, mkM tb (-(k : Int)) = z := ⟨_, rfl⟩
  obtain ⟨F7, hF7⟩ : ∃ z, mkE tb (-(k : Int)) = z := ⟨_, rfl⟩
  rw [hM7, hN7] at L ⊢
  rw [hE7, hF7]
  have Hta := Lib.hid (And.intro hta (And.intro (And.intro hM7 hE7) (And.intro hN7 hF7)))
  clear hta hM7 hE7 hN7 hF7
  replace L := L.varI w10.heap.size rfl (ng M7) A7 (zl M7) c7 E7 (ng N7) B7 (zl N7) d7 F7
  go_wp2_with fail
  obtain ⟨gt, hgt⟩ : ∃ g9, w10.heap.size = g9 := ⟨_, rfl⟩
  rw [hgt] at L hl9 ⊢
  clear hgt
  have hl_gt := hl9
  clear hl9
  refine (G7.out _ L.below).mono ?_
  rintro e w11 ⟨vv, rfl, ii, be⟩
  obtain ⟨Ac, cc, Bc, dc, rfl, ia, ib⟩ := ii.form
  replace L := ((L.step be).n ib).n ia
  clear be ii ia ib
  have hl9 := L.b0.lt
  replace L := L.varI w11.heap.size rfl (ng Mc) Ac (zl Mc) cc Ec (ng Nc) Bc (zl Nc) dc Fc
  go_wp2_with fail
  obtain ⟨gc, hgc⟩ : ∃ g9, w11.heap.size = g9 := ⟨_, rfl⟩
  rw [hgc] at L hl9 ⊢
  clear hgc
  have hl_gc := hl9
  clear hl9
  refine (G8.out _).mono ?_
  rintro e w12 ⟨vv, rfl, ii, be⟩
  obtain ⟨A8, c8, B8, d8, rfl, ia, ib⟩ := ii.form
  replace L := ((L.step be).n ib).n ia
  clear be ii ia ib
  (try go_wp2_with fail)
  refine (G9.out _ _ (isI_n (m := 1) (e := 0) (n := 1) (f := 0) (s := .slice A8 (zl 1) c8) (t := .slice B8 (zl 1) d8) (L.getN (by simp)) (L.getN (by simp))) L.below).mono ?_
  intro e9 w13 hr9
  obtain ⟨oa, ob, hab9, vv, rfl, ii, be⟩ := hr9
  obtain ⟨A9, c9, B9, d9, rfl, ia, ib⟩ := ii.form
  replace L := ((L.step be).n ib).n ia
  clear be ii ia ib
  have hl9 := L.b0.lt
  have hoa := hab9 (by have := HK.out; omega) HO.out.2 HO.out.2
  clear hab9
  obtain ⟨M9, hM9⟩ : ∃ z, mkM oa (-(k : Int)) = z := ⟨_, rfl⟩
  obtain ⟨E9, hE9⟩ : ∃ z, mkE oa (-(k : Int)) = z := ⟨_, rfl⟩
  obtain ⟨N9, hN9⟩ : ∃ z, mkM ob (-(k : Int)) = z := ⟨_, rfl⟩
  obtain ⟨F9, hF9⟩ : ∃ z, mkE ob (-(k : Int)) = z := ⟨_, rfl⟩
  rw [hM9, hN9] at L ⊢
  rw [hE9, hF9]
  have Hoa := Lib.hid (And.intro hoa (And.intro (And.intro hM9 hE9) (And.intro hN9 hF9)))
  clear hoa hM9 hE9 hN9 hF9
  replace L := L.varI w13.heap.size rfl (ng M9) A9 (zl M9) c9 E9 (ng N9) B9 (zl N9) d9 F9
  go_wp2_with fail
  obtain ⟨go, hgo⟩ : ∃ g9, w13.heap.size = g9 := ⟨_, rfl⟩
  rw [hgo] at L hl9 ⊢
  clear hgo
  have hl_go := hl9
  clear hl9
  obtain ⟨⟨ea, eb, za, zb⟩, ⟨hM5, hE5⟩, hN5, hF5⟩ := Hpa.out
  obtain ⟨⟨ta1, tb1, za2, zb2⟩, ⟨hM7, hE7⟩, hN7, hF7⟩ := Hta.out
  obtain ⟨⟨oa1, ob1, za3, zb3⟩, ⟨hM9, hE9⟩, hN9, hF9⟩ := Hoa.out
  obtain ⟨ux, lx, ⟨u1, u2⟩, u3, u4⟩ := HS.out
  obtain ⟨cl, ch, ⟨u5, u6⟩, u7, u8⟩ := HC.out
  obtain ⟨lp, q1', q2', _⟩ := HP.out
  have bk := HK.out
  obtain ⟨p1, p2, p3, p4⟩ := gr15 (k := k) za (by omega) (by omega)
  obtain ⟨q1, q2, q3, q4⟩ := gr15 (k := k) zb (by omega) (by omega)
  obtain ⟨r1, r2, r3, r4⟩ := gr15 (k := k) za2 (by omega) (by omega)
  obtain ⟨s1, s2, s3, s4⟩ := gr15 (k := k) zb2 (by omega) (by omega)
  obtain ⟨x1, x2, x3, x4⟩ := gr15 (k := k) za3 (by omega) (by omega)
  obtain ⟨y1, y2, y3, y4⟩ := gr15 (k := k) zb3 (by omega) (by omega)
  rw [hM5] at p1
  rw [hM5, hE5] at p4
  rw [hE5] at p2
  rw [hN5] at q1
  rw [hN5, hF5] at q4
  rw [hF5] at q2
  rw [hM7] at r1
  rw [hM7, hE7] at r4
  rw [hE7] at r2
  rw [hN7] at s1
  rw [hN7, hF7] at s4
  rw [hF7] at s2
  rw [hM9] at x1
  rw [hM9, hE9] at x4
  rw [hE9] at x2
  rw [hN9] at y1
  rw [hN9, hF9] at y4
  rw [hF9] at y2
  have k1 : dq Ms Es ≤ dq N5 F5 := by rw [q4]; exact ln_mono ux eb.2 q2'
  have k2 : dq M5 E5 ≤ dq Ns Fs := by rw [p4]; exact ln_mono ea.1 lx q1'
  have e2' : dq 1 1 = 2 := by decide +kernel
  have e1' : dq 1 0 = 1 := by decide +kernel
  rw [e2'] at ta1 tb1
  rw [e1'] at oa1 ob1
  have k3 : dq Mc Ec ≤ dq N7 F7 := by rw [s4]; exact ln_le cl tb1.2
  have k4 : dq M7 E7 ≤ dq Nc Fc := by rw [r4]; exact ln_le ta1.1 ch
  have k5 : dq M9 E9 ≤ 0 := by rw [x4]; exact ln_le oa1.1 exp_0.1
  have k6 : 0 ≤ dq N9 F9 := by rw [y4]; exact ln_le exp_0.2 ob1.2
  have g11 : ∀ v u W, IsI W v M5 E5 N5 F5 → IsI W u Ms Es Ns Fs → Calls Tryz.prog 20 #[v, u] W (RetI W 0) := fun v u W h k9 => by
    have s := r10cmp_any _ _ _ _ _ _ _ _ v u W h k9 (by omega) (by omega) (by omega) (by omega) (by omega) (by omega) (by omega) (by omega)
    rwa [icm_meet15 k1 k2] at s
  have g12 : ∀ v u W, IsI W v M7 E7 N7 F7 → IsI W u Mc Ec Nc Fc → Calls Tryz.prog 20 #[v, u] W (RetI W 0) := fun v u W h k9 => by
    have s := r10cmp_any _ _ _ _ _ _ _ _ v u W h k9 (by omega) (by omega) (by omega) (by omega) (by omega) (by omega) (by omega) (by omega)
    rwa [icm_meet15 k3 k4] at s
  have g13 : ∀ v u W, IsI W v M9 E9 N9 F9 → IsP W u 0 1 → Calls Tryz.prog 25 #[v, u] W (RetB W true) := fun v u W h k9 => by
    have s := r10has_any _ _ _ _ 0 1 v u W h k9 (by omega) (by omega) (by omega) (by omega) (Nat.le_trans zl_nil (by omega)) (Nat.le_trans (len_le1 (by decide)) (by omega))
    rwa [(hasB_iff _ _ _ _ _ _ (by omega)).2 ⟨k5, k6⟩] at s
  have g14 := fun W => (show Calls Tryz.prog 26 #[.int .i64 0] W (RetP W 0 1) from rofn7_any 0 W (by omega) (by omega))
  have G11 := Lib.hid g11
  have G12 := Lib.hid g12
  have G13 := Lib.hid g13
  have G14 := Lib.hid g14
  clear g11 g12 g13 g14
  clear ea eb za zb hM5 hE5 hN5 hF5 ta1 tb1 za2 zb2 hM7 hE7 hN7 hF7 oa1 ob1 za3 zb3 hM9 hE9 hN9 hF9 ux lx u1 u2 u3 u4 cl ch u5 u6 u7 u8 lp q1' q2' bk p1 p2 p3 p4 q1 q2 q3 q4 r1 r2 r3 r4 s1 s2 s3 s4 x1 x2 x3 x4 y1 y2 y3 y4 k1 k2 k3 k4 k5 k6 e1' e2'
  replace L := L.drew
  have c00 := L.b0.c60
  have c01 := L.b0.c61
  have c02 := L.b0.c62
  have c03 := L.b0.c63
  have c04 := L.b0.c64
  have c05 := L.b0.c65
  have c10 := L.tl.b0.c60
  have c11 := L.tl.b0.c61
  have c12 := L.tl.b0.c62
  have c13 := L.tl.b0.c63
  have c14 := L.tl.b0.c64
  have c15 := L.tl.b0.c65
  have c20 := L.tl.tl.b0.c60
  have c21 := L.tl.tl.b0.c61
  have c22 := L.tl.tl.b0.c62
  have c23 := L.tl.tl.b0.c63
  have c24 := L.tl.tl.b0.c64
  have c25 := L.tl.tl.b0.c65
  have c30 := L.tl.tl.tl.b0.c60
  have c31 := L.tl.tl.tl.b0.c61
  have c32 := L.tl.tl.tl.b0.c62
  have c33 := L.tl.tl.tl.b0.c63
  have c34 := L.tl.tl.tl.b0.c64
  have c35 := L.tl.tl.tl.b0.c65
  have c40 := L.tl.tl.tl.tl.b0.c60
  have c41 := L.tl.tl.tl.tl.b0.c61
  have c42 := L.tl.tl.tl.tl.b0.c62
  have c43 := L.tl.tl.tl.tl.b0.c63
  have c44 := L.tl.tl.tl.tl.b0.c64
  have c45 := L.tl.tl.tl.tl.b0.c65
  go_region_held3 (fun w' => w'.cell? ⟨gn, 0, none⟩ = some (.bool (ng M5)) ∧ w'.cell? ⟨gn, 1, none⟩ = some (.slice A5 (zl M5) c5) ∧ w'.cell? ⟨gn, 2, none⟩ = some (.int .i64 E5) ∧ w'.cell? ⟨gn, 3, none⟩ = some (.bool (ng N5)) ∧ w'.cell? ⟨gn, 4, none⟩ = some (.slice B5 (zl N5) d5) ∧ w'.cell? ⟨gn, 5, none⟩ = some (.int .i64 F5) ∧ w'.cell? ⟨gs, 0, none⟩ = some (.bool (ng Ms)) ∧ w'.cell? ⟨gs, 1, none⟩ = some (.slice As (zl Ms) cs) ∧ w'.cell? ⟨gs, 2, none⟩ = some (.int .i64 Es) ∧ w'.cell? ⟨gs, 3, none⟩ = some (.bool (ng Ns)) ∧ w'.cell? ⟨gs, 4, none⟩ = some (.slice Bs (zl Ns) ds) ∧ w'.cell? ⟨gs, 5, none⟩ = some (.int .i64 Fs) ∧ w'.cell? ⟨gt, 0, none⟩ = some (.bool (ng M7)) ∧ w'.cell? ⟨gt, 1, none⟩ = some (.slice A7 (zl M7) c7) ∧ w'.cell? ⟨gt, 2, none⟩ = some (.int .i64 E7) ∧ w'.cell? ⟨gt, 3, none⟩ = some (.bool (ng N7)) ∧ w'.cell? ⟨gt, 4, none⟩ = some (.slice B7 (zl N7) d7) ∧ w'.cell? ⟨gt, 5, none⟩ = some (.int .i64 F7) ∧ w'.cell? ⟨gc, 0, none⟩ = some (.bool (ng Mc)) ∧ w'.cell? ⟨gc, 1, none⟩ = some (.slice Ac (zl Mc) cc) ∧ w'.cell? ⟨gc, 2, none⟩ = some (.int .i64 Ec) ∧ w'.cell? ⟨gc, 3, none⟩ = some (.bool (ng Nc)) ∧ w'.cell? ⟨gc, 4, none⟩ = some (.slice Bc (zl Nc) dc) ∧ w'.cell? ⟨gc, 5, none⟩ = some (.int .i64 Fc) ∧ w'.cell? ⟨go, 0, none⟩ = some (.bool (ng M9)) ∧ w'.cell? ⟨go, 1, none⟩ = some (.slice A9 (zl M9) c9) ∧ w'.cell? ⟨go, 2, none⟩ = some (.int .i64 E9) ∧ w'.cell? ⟨go, 3, none⟩ = some (.bool (ng N9)) ∧ w'.cell? ⟨go, 4, none⟩ = some (.slice B9 (zl N9) d9) ∧ w'.cell? ⟨go, 5, none⟩ = some (.int .i64 F9)) (first | (with_reducible exact ⟨L.tl.tl.tl.tl.b0.c60, L.tl.tl.tl.tl.b0.c61, L.tl.tl.tl.tl.b0.c62, L.tl.tl.tl.tl.b0.c63, L.tl.tl.tl.tl.b0.c64, L.tl.tl.tl.tl.b0.c65, L.tl.tl.tl.b0.c60, L.tl.tl.tl.b0.c61, L.tl.tl.tl.b0.c62, L.tl.tl.tl.b0.c63, L.tl.tl.tl.b0.c64, L.tl.tl.tl.b0.c65, L.tl.tl.b0.c60, L.tl.tl.b0.c61, L.tl.tl.b0.c62, L.tl.tl.b0.c63, L.tl.tl.b0.c64, L.tl.tl.b0.c65, L.tl.b0.c60, L.tl.b0.c61, L.tl.b0.c62, L.tl.b0.c63, L.tl.b0.c64, L.tl.b0.c65, L.b0.c60, L.b0.c61, L.b0.c62, L.b0.c63, L.b0.c64, L.b0.c65⟩) | exact ⟨L.tl.tl.tl.tl.b0.c60, L.tl.tl.tl.tl.b0.c61, L.tl.tl.tl.tl.b0.c62, L.tl.tl.tl.tl.b0.c63, L.tl.tl.tl.tl.b0.c64, L.tl.tl.tl.tl.b0.c65, L.tl.tl.tl.b0.c60, L.tl.tl.tl.b0.c61, L.tl.tl.tl.b0.c62, L.tl.tl.tl.b0.c63, L.tl.tl.tl.b0.c64, L.tl.tl.tl.b0.c65, L.tl.tl.b0.c60, L.tl.tl.b0.c61, L.tl.tl.b0.c62, L.tl.tl.b0.c63, L.tl.tl.b0.c64, L.tl.tl.b0.c65, L.tl.b0.c60, L.tl.b0.c61, L.tl.b0.c62, L.tl.b0.c63, L.tl.b0.c64, L.tl.b0.c65, L.b0.c60, L.b0.c61, L.b0.c62, L.b0.c63, L.b0.c64, L.b0.c65⟩) (first | (go_at_call 20; (with_reducible refine (G11.out _ _ _ ?_ ?_).mono ?_); (· (refine isI_n (L.getN ?_) (L.getN ?_); all_goals (repeat (first | (with_reducible exact List.mem_cons_self) | apply List.mem_cons_of_mem)))); (· (refine isI_n (L.getN ?_) (L.getN ?_); all_goals (repeat (first | (with_reducible exact List.mem_cons_self) | apply List.mem_cons_of_mem)))); rintro e wh ⟨rfl, be⟩; replace L := L.step be; clear be) | (go_at_call 20; (with_reducible refine (G12.out _ _ _ ?_ ?_).mono ?_); (· (refine isI_n (L.getN ?_) (L.getN ?_); all_goals (repeat (first | (with_reducible exact List.mem_cons_self) | apply List.mem_cons_of_mem)))); (· (refine isI_n (L.getN ?_) (L.getN ?_); all_goals (repeat (first | (with_reducible exact List.mem_cons_self) | apply List.mem_cons_of_mem)))); rintro e wh ⟨rfl, be⟩; replace L := L.step be; clear be) | (go_at_call 26; (with_reducible refine (G14.out _).mono ?_); rintro e wh ⟨vh, rfl, iq, be⟩; replace L := (L.step be).q iq; clear be iq) | (go_at_call 25; (with_reducible refine (G13.out _ _ _ ?_ ?_).mono ?_); (· (refine isI_n (L.getN ?_) (L.getN ?_); all_goals (repeat (first | (with_reducible exact List.mem_cons_self) | apply List.mem_cons_of_mem)))); (· (refine L.getQ ?_; (repeat (first | (with_reducible exact List.mem_cons_self) | apply List.mem_cons_of_mem)))); rintro e wh ⟨rfl, be⟩; replace L := L.step be; clear be))
  (try go_wp2_with fail)
  (try go_ret)
  exact ⟨rfl, L.below⟩

end Go.Proofs.YtmlddkiccjpoeaaGreatDoor
