/- The walk of ExponentialRises: whatever the input, the law returns true and turns nothing that was there. -/
import Derived.Test.YtnnfldkllhdhjaaGreatDoorJP3
import Derived.Test.YtnnfldkllhdhjaaGreatDoorBaseFP
import Derived.Deep.RegionHeld3
import Derived.Deep.DrawnRows
namespace Go.Proofs.YtnnfldkllhdhjaaGreatDoor
open Go.RowKit
set_option linter.unusedVariables false
set_option linter.unusedSimpArgs false
set_option maxRecDepth 100000
attribute [local go_sem ↓] Go.wp_at_zero Go.wp_at_succ

theorem icm_le9 {m e n f m2 e2 n2 f2 : Int} (h2 : dq m e ≤ dq n2 f2) : icm m e n f m2 e2 n2 f2 ≤ 0 := by
  have h3 : dcm m e n2 f2 ≤ 0 := (dcm_le _ _ _ _).2 h2
  unfold icm
  (repeat' split) <;> omega
theorem icm_meet9 {m e n f m2 e2 n2 f2 : Int} (h1 : dq m2 e2 ≤ dq n f) (h2 : dq m e ≤ dq n2 f2) : icm m e n f m2 e2 n2 f2 = 0 := by
  have h3 : dcm m2 e2 n f ≤ 0 := (dcm_le _ _ _ _).2 h1
  have h4 : dcm m e n2 f2 ≤ 0 := (dcm_le _ _ _ _).2 h2
  have h5 := dcm_swap m2 e2 n f
  unfold icm
  (repeat' split) <;> omega
/-- x + 1 is at most the upper end of the exponential. -/
theorem line14 {k : Nat} {b : Int} {x y : Rat} (hb : EpB k b y) (hxy : x ≤ y) : x + 1 ≤ dq b (-(k : Int)) := by
  by_cases h : 0 ≤ 1 + x
  · have := ((exp_line x).mono hxy h).le hb.2.2
    generalize dq b (-(k : Int)) = B at *
    grind
  · have := hb.2.2.pos
    generalize dq b (-(k : Int)) = B at *
    grind

set_option maxHeartbeats 64000000 in
theorem walk_ExponentialRises (b0 : Bool) (a0 : Option Addr) (len0 cap0 : Nat) (z0 : List Nat) (f0 : Int) (bb0 : Bool) (aa0 : Option Addr) (ll0 cc0 : Nat) (zz0 : List Nat) (ff0 : Int) (b1 : Bool) (a1 : Option Addr) (len1 cap1 : Nat) (z1 : List Nat) (f1 : Int) (bb1 : Bool) (aa1 : Option Addr) (ll1 cc1 : Nat) (zz1 : List Nat) (ff1 : Int) (a2 : Int) (w : World) (h0 : Sl w a0 len0 cap0 z0 ∧ -9223372036854775808 ≤ f0 ∧ f0 ≤ 9223372036854775807) (k0 : Sl w aa0 ll0 cc0 zz0 ∧ -9223372036854775808 ≤ ff0 ∧ ff0 ≤ 9223372036854775807) (h1 : Sl w a1 len1 cap1 z1 ∧ -9223372036854775808 ≤ f1 ∧ f1 ≤ 9223372036854775807) (k1 : Sl w aa1 ll1 cc1 zz1 ∧ -9223372036854775808 ≤ ff1 ∧ ff1 ≤ 9223372036854775807) (h2 : -9223372036854775808 ≤ a2 ∧ a2 ≤ 9223372036854775807) (hT : Tab w) :
    Calls Tryz.prog 7 #[.agg #[.bool b0, .slice a0 len0 cap0, .int .i64 f0, .bool bb0, .slice aa0 ll0 cc0, .int .i64 ff0], .agg #[.bool b1, .slice a1 len1 cap1, .int .i64 f1, .bool bb1, .slice aa1 ll1 cc1, .int .i64 ff1], .int .i64 a2] w (fun e w' => e = .returned (.bool true) ∧ Below w.heap.size w w') := by
  have HT := Lib.hid (fun W (hW : Below w.heap.size w W) => hT.mono hW)
  clear hT
  go_enter Tryz.func7, Tryz.ntmps7
  go_wp2_with fail
  have L := (((Lq.mk0 w).varI (w.heap.size) (by simp) b0 a0 len0 cap0 f0 bb0 aa0 ll0 cc0 ff0).varI (w.heap.size + 1) (by simp) b1 a1 len1 cap1 f1 bb1 aa1 ll1 cc1 ff1)
  (try go_wp2_with fail)
  refine (awake14_any _ (HT.out _ L.below)).mono ?_
  rintro e9 w1 ⟨rfl, be⟩
  replace L := L.step be
  clear be
  have c00 := L.b0.c60
  have c01 := L.b0.c61
  have c02 := L.b0.c62
  have c03 := L.b0.c63
  have c04 := L.b0.c64
  have c05 := L.b0.c65
  have c10 := L.tl.b0.c60
  have c11 := L.tl.b0.c61
  have c12 := L.tl.b0.c62
  have c13 := L.tl.b0.c63
  have c14 := L.tl.b0.c64
  have c15 := L.tl.b0.c65
  (try go_wp2_with fail)
  refine (s14arg_any b0 bb0 z0 zz0 a0 aa0 len0 cap0 ll0 cc0 f0 ff0 5 _ (h0.1.mono L.below) (k0.1.mono L.below) h0.2.1 h0.2.2 k0.2.1 k0.2.2 (by omega)).mono ?_
  rintro e9 w2 ⟨vx, ok, m, e, n, f, rfl, ii, be, hok⟩
  clear c00 c01 c02 c03 c04 c05 c10 c11 c12 c13 c14 c15
  obtain ⟨A, c, B, d, rfl, ia, ib⟩ := ii.form
  replace L := ((L.step be).n ib).n ia
  clear be ii ia ib
  have hl9 := L.b0.lt
  replace L := L.varI w2.heap.size rfl (ng m) A (zl m) c e (ng n) B (zl n) d f
  have c10 := L.tl.b0.c60
  have c11 := L.tl.b0.c61
  have c12 := L.tl.b0.c62
  have c13 := L.tl.b0.c63
  have c14 := L.tl.b0.c64
  have c15 := L.tl.b0.c65
  go_wp2_with fail
  clear c10 c11 c12 c13 c14 c15
  obtain ⟨gx, hgx⟩ : ∃ g9, w2.heap.size = g9 := ⟨_, rfl⟩
  rw [hgx] at L hl9 ⊢
  clear hgx
  have hl_gx := hl9
  clear hl9
  refine (s14arg_any b1 bb1 z1 zz1 a1 aa1 len1 cap1 ll1 cc1 f1 ff1 5 _ (h1.1.mono L.below) (k1.1.mono L.below) h1.2.1 h1.2.2 k1.2.1 k1.2.2 (by omega)).mono ?_
  rintro e9 w3 ⟨vy, fine, m2, e2, n2, f2, rfl, ii, be, hfine⟩
  obtain ⟨A2, c2, B2, d2, rfl, ia, ib⟩ := ii.form
  replace L := ((L.step be).n ib).n ia
  clear be ii ia ib
  have hl9 := L.b0.lt
  replace L := L.varI w3.heap.size rfl (ng m2) A2 (zl m2) c2 e2 (ng n2) B2 (zl n2) d2 f2
  cases ok
  · go_wp2_with fail
    go_ret
    exact ⟨rfl, L.below⟩
  cases fine
  · go_wp2_with fail
    go_ret
    exact ⟨rfl, L.below⟩
  obtain ⟨j, hj, hr, t1, t2⟩ := hok rfl
  have hX := ArgX.of hr hj t1 t2
  obtain ⟨j2, hj2, hr2, t3, t4⟩ := hfine rfl
  have hY := ArgX.of hr2 hj2 t3 t4
  clear hok hfine hr hj t1 t2 hr2 hj2 t3 t4
  obtain ⟨k, hk⟩ : ∃ r : Nat, a2 % 60 = (r : Int) := ⟨(a2 % 60).toNat, by omega⟩
  have o1 := fun W => mod_any a2 60 W (by omega) (by omega) h2.1 h2.2
  rw [hk] at o1
  have bk : k < 60 := by omega
  have MO1 := Lib.hid o1
  obtain ⟨sm, _, _, _, _⟩ := hX.all (by omega)
  obtain ⟨sm2, _, _, _, _⟩ := hY.all (by omega)
  have z1 := hX.zm
  have z2 := hX.zn
  have b1 := hX.em
  have b2 := hX.en
  have z3 := hY.zm
  have z4 := hY.zn
  have b3 := hY.em
  have b4 := hY.en
  have g1 := fun v W h (hW : Below w.heap.size w W) => xexp_yes m e n f k v W h (by omega) (by omega) (by omega) (by omega) hX.vm hX.vn sm (by omega) (hX.to200 (by omega)) (HT.out W hW)
  have g2 := fun v W h (hW : Below w.heap.size w W) => xexp_yes m2 e2 n2 f2 k v W h (by omega) (by omega) (by omega) (by omega) hY.vm hY.vn sm2 (by omega) (hY.to200 (by omega)) (HT.out W hW)
  have g3 := fun v u W h k9 => rcmp8_any m e n2 f2 v u W h k9 (by omega) (by omega) (by omega) (by omega)
  rw [show cmpI (m * 2 ^ (e - min e f2).toNat) (n2 * 2 ^ (f2 - min e f2).toNat) = dcm m e n2 f2 from rfl] at g3
  obtain ⟨cm, hcm⟩ : ∃ z, dcm m e n2 f2 = z := ⟨_, rfl⟩
  rw [hcm] at g3
  have y1 := zl_two m e.toNat
  have y2 := len_two (-e).toNat
  have y3 := two_pos8 (-e).toNat
  have g4 := fun v W h => rrat8_any m e v W h (by omega) (by omega)
  have g5 := fun W => (show Calls Tryz.prog 29 #[.int .i64 1] W (RetP W 1 1) from rofn7_any 1 W (by omega) (by omega))
  have z11 : zl 1 ≤ 1 := zl_c 1 (by decide)
  have l11 : len 1 ≤ 1 := len_le1 (by decide)
  have g6 := fun v u W h k9 => radd7_any (m * 2 ^ e.toNat) (2 ^ (-e).toNat) 1 1 v u W h k9 (by omega) (by omega) (by omega) (by omega) y3 (by omega)
  have hq : Rat.divInt (m * 2 ^ e.toNat * ((1 : Nat) : Int) + 1 * ((2 ^ (-e).toNat : Nat) : Int)) (((2 ^ (-e).toNat : Nat) : Int) * ((1 : Nat) : Int)) = dq m e + 1 := by
    have := q_add (a := m * 2 ^ e.toNat) (b := 1) y3 (show 0 < 1 by omega)
    rw [this, qOf_dq]
    rfl
  have zq := zl_mul (m * 2 ^ e.toNat) ((1 : Nat) : Int)
  obtain ⟨K6, hK6⟩ : ∃ K6, K6 = 6000 := ⟨_, rfl⟩
  have zs := divInt_small (m * 2 ^ e.toNat * ((1 : Nat) : Int) + 1 * ((2 ^ (-e).toNat : Nat) : Int)) (2 ^ (-e).toNat * 1) 1000 (by
    have h1 : AbP (m * 2 ^ e.toNat * ((1 : Nat) : Int)) K6 := by
      rw [show ((1 : Nat) : Int) = 1 from rfl, Int.mul_one]
      unfold AbP
      rw [abs_shl]
      have h2 : m.natAbs < 2 ^ (32 * zl m) := by
        have := lt_pow_len m.natAbs
        rw [W32_pow] at this
        exact this
      have h3 : m.natAbs * 2 ^ e.toNat ≤ 2 ^ (32 * zl m) * 2 ^ e.toNat := Nat.mul_le_mul_right _ (by omega)
      rw [← Nat.pow_add] at h3
      exact Nat.le_trans h3 (Nat.pow_le_pow_right (by omega) (by omega))
    have h4 : AbP (1 * ((2 ^ (-e).toNat : Nat) : Int)) K6 := by
      rw [Int.one_mul]
      unfold AbP
      rw [Int.natAbs_natCast]
      exact Nat.pow_le_pow_right (by omega) (by omega)
    have := (h1.add h4).zl
    omega) (by rw [Nat.mul_one]; omega) (by rw [Nat.mul_one]; exact y3)
  rw [Int.natCast_mul, hq] at zs
  unfold RetQ at g6
  rw [hq] at g6
  have hqp := Rat.den_pos (dq m e + 1)
  have hqe := Rat.num_divInt_den (dq m e + 1)
  obtain ⟨qa, hqa⟩ : ∃ z, (dq m e + 1).num = z := ⟨_, rfl⟩
  obtain ⟨qd, hqd⟩ : ∃ z, (dq m e + 1).den = z := ⟨_, rfl⟩
  rw [hqa, hqd] at g6 hqe
  rw [hqd] at hqp
  rw [hqa] at zs
  rw [hqd] at zs
  have hXle := hX.le
  have hc := dcm_le m e n2 f2
  rw [hcm] at hc
  have HQ := Lib.hid (And.intro hqe (And.intro hqp (And.intro zs (And.intro hXle (And.intro hc bk)))))
  generalize m * 2 ^ e.toNat = ra at *
  generalize 2 ^ (-e).toNat = rd at *
  have G1 := Lib.hid g1
  have G2 := Lib.hid g2
  have G3 := Lib.hid g3
  have G4 := Lib.hid g4
  have G5 := Lib.hid g5
  have G6 := Lib.hid g6
  clear o1 hk bk sm sm2 z1 z2 z3 z4 b1 b2 b3 b4 g1 g2 g3 g4 g5 g6 y1 y2 y3 z11 l11 hq zq zs hqp hqe hqa hqd hXle hc hcm hX hY
  have c00 := L.b0.c60
  have c01 := L.b0.c61
  have c02 := L.b0.c62
  have c03 := L.b0.c63
  have c04 := L.b0.c64
  have c05 := L.b0.c65
  have c10 := L.tl.b0.c60
  have c11 := L.tl.b0.c61
  have c12 := L.tl.b0.c62
  have c13 := L.tl.b0.c63
  have c14 := L.tl.b0.c64
  have c15 := L.tl.b0.c65
  go_wp2_with fail
  clear c00 c01 c02 c03 c04 c05 c10 c11 c12 c13 c14 c15
  obtain ⟨gy, hgy⟩ : ∃ g9, w3.heap.size = g9 := ⟨_, rfl⟩
  rw [hgy] at L hl9 ⊢
  clear hgy
  have hl_gy := hl9
  clear hl9
  refine (MO1.out _).mono ?_
  rintro e9 w' ⟨rfl, rfl⟩
  have c10 := L.tl.b0.c60
  have c11 := L.tl.b0.c61
  have c12 := L.tl.b0.c62
  have c13 := L.tl.b0.c63
  have c14 := L.tl.b0.c64
  have c15 := L.tl.b0.c65
  (try go_wp2_with fail)
  refine (G1.out _ _ (isI_n (m := m) (e := e) (n := n) (f := f) (s := .slice A (zl m) c) (t := .slice B (zl n) d) (L.getN (by simp)) (L.getN (by simp))) L.below).mono ?_
  intro e9 w4 hr9
  obtain ⟨ap, bp, hap, hbp, vv, rfl, ii, be⟩ := hr9.ab
  clear c10 c11 c12 c13 c14 c15
  obtain ⟨A3, c3, B3, d3, rfl, ia, ib⟩ := ii.form
  replace L := ((L.step be).n ib).n ia
  clear be ii ia ib hr9
  have hl9 := L.b0.lt
  obtain ⟨Mp, hMp⟩ : ∃ z, mkM ap (-(k : Int)) = z := ⟨_, rfl⟩
  obtain ⟨Ep, hEp⟩ : ∃ z, mkE ap (-(k : Int)) = z := ⟨_, rfl⟩
  obtain ⟨Np, hNp⟩ : ∃ z, mkM bp (-(k : Int)) = z := ⟨_, rfl⟩
  obtain ⟨Fp, hFp⟩ : ∃ z, mkE bp (-(k : Int)) = z := ⟨_, rfl⟩
  rw [hMp, hNp] at L ⊢
  rw [hEp, hFp]
  have Hap := Lib.hid (And.intro hap (And.intro hbp (And.intro (And.intro hMp hEp) (And.intro hNp hFp))))
  clear hap hbp hMp hEp hNp hFp
  replace L := L.varI w4.heap.size rfl (ng Mp) A3 (zl Mp) c3 Ep (ng Np) B3 (zl Np) d3 Fp
  have c10 := L.tl.b0.c60
  have c11 := L.tl.b0.c61
  have c12 := L.tl.b0.c62
  have c13 := L.tl.b0.c63
  have c14 := L.tl.b0.c64
  have c15 := L.tl.b0.c65
  go_wp2_with fail
  clear c10 c11 c12 c13 c14 c15
  obtain ⟨gp, hgp⟩ : ∃ g9, w4.heap.size = g9 := ⟨_, rfl⟩
  rw [hgp] at L hl9 ⊢
  clear hgp
  have hl_gp := hl9
  clear hl9
  refine (G2.out _ _ (isI_n (m := m2) (e := e2) (n := n2) (f := f2) (s := .slice A2 (zl m2) c2) (t := .slice B2 (zl n2) d2) (L.getN (by simp)) (L.getN (by simp))) L.below).mono ?_
  intro e9 w5 hr9
  obtain ⟨aq, bq, haq, hbq, vv, rfl, ii, be⟩ := hr9.ab
  obtain ⟨A4, c4, B4, d4, rfl, ia, ib⟩ := ii.form
  replace L := ((L.step be).n ib).n ia
  clear be ii ia ib hr9
  have hl9 := L.b0.lt
  obtain ⟨Mq, hMq⟩ : ∃ z, mkM aq (-(k : Int)) = z := ⟨_, rfl⟩
  obtain ⟨Eq, hEq⟩ : ∃ z, mkE aq (-(k : Int)) = z := ⟨_, rfl⟩
  obtain ⟨Nq, hNq⟩ : ∃ z, mkM bq (-(k : Int)) = z := ⟨_, rfl⟩
  obtain ⟨Fq, hFq⟩ : ∃ z, mkE bq (-(k : Int)) = z := ⟨_, rfl⟩
  rw [hMq, hNq] at L ⊢
  rw [hEq, hFq]
  have Haq := Lib.hid (And.intro haq (And.intro hbq (And.intro (And.intro hMq hEq) (And.intro hNq hFq))))
  clear haq hbq hMq hEq hNq hFq
  replace L := L.varI w5.heap.size rfl (ng Mq) A4 (zl Mq) c4 Eq (ng Nq) B4 (zl Nq) d4 Fq
  have c20 := L.tl.tl.b0.c60
  have c21 := L.tl.tl.b0.c61
  have c22 := L.tl.tl.b0.c62
  have c23 := L.tl.tl.b0.c63
  have c24 := L.tl.tl.b0.c64
  have c25 := L.tl.tl.b0.c65
  have c30 := L.tl.tl.tl.b0.c60
  have c31 := L.tl.tl.tl.b0.c61
  have c32 := L.tl.tl.tl.b0.c62
  have c33 := L.tl.tl.tl.b0.c63
  have c34 := L.tl.tl.tl.b0.c64
  have c35 := L.tl.tl.tl.b0.c65
  go_wp2_with fail
  clear c20 c21 c22 c23 c24 c25 c30 c31 c32 c33 c34 c35
  obtain ⟨gq, hgq⟩ : ∃ g9, w5.heap.size = g9 := ⟨_, rfl⟩
  rw [hgq] at L hl9 ⊢
  clear hgq
  have hl_gq := hl9
  clear hl9
  refine (G3.out _ _ _ (isD_n (m := m) (e := e) (s := .slice A (zl m) c) (L.getN (by simp))) (isD_n (m := n2) (e := f2) (s := .slice B2 (zl n2) d2) (L.getN (by simp)))).mono ?_
  rintro e w6 ⟨rfl, be⟩
  replace L := L.step be
  clear be
  obtain ⟨hqe, hqp, ⟨zs1, zs2⟩, hXle, hc, bk⟩ := HQ.out
  obtain ⟨eap, ebp, ⟨hMp, hEp⟩, hNp, hFp⟩ := Hap.out
  obtain ⟨eaq, ebq, ⟨hMq, hEq⟩, hNq, hFq⟩ := Haq.out
  obtain ⟨x1, x2, x3, x4, x5⟩ := np eap.2.1 (by omega) (show k ≤ 3000 by omega)
  obtain ⟨y1, y2, y3, y4, y5⟩ := np ebp.1 (by omega) (show k ≤ 3000 by omega)
  obtain ⟨u1, u2, u3, u4, u5⟩ := np eaq.2.1 (by omega) (show k ≤ 3000 by omega)
  obtain ⟨v1, v2, v3, v4, v5⟩ := np ebq.1 (by omega) (show k ≤ 3000 by omega)
  rw [hMp] at x2 x5
  rw [hEp] at x3 x5
  rw [hNp] at y2 y5
  rw [hFp] at y3 y5
  rw [hMq] at u2 u5
  rw [hEq] at u3 u5
  rw [hNq] at v2 v5
  rw [hFq] at v3 v5
  have g7 := fun v u W h k9 => r10cmp_any Mp Ep Np Fp Mq Eq Nq Fq v u W h k9 (by omega) (by omega) (by omega) (by omega) (by omega) (by omega) (by omega) (by omega)
  have g8 := fun v W h => rrat8_any Np Fp v W h (by omega) (by omega)
  have w1 := zl_two Np Fp.toNat
  have w2 := len_two (-Fp).toNat
  have w3 := two_pos8 (-Fp).toNat
  have g9 := fun v u W h k9 => rcmp7_any qa qd (Np * 2 ^ Fp.toNat) (2 ^ (-Fp).toNat) v u W h k9 (by omega) (by omega) (by omega) (by omega)
  have hline := line14 ebp hXle
  rw [← y5] at hline
  have hcz : cmpI (qa * ((2 ^ (-Fp).toNat : Nat) : Int)) (Np * 2 ^ Fp.toNat * (qd : Int)) ≤ 0 := by
    rw [cmpI_le]
    refine (divInt_le (by omega) (by omega)).1 ?_
    rw [hqe]
    exact hline
  have hci : cm ≤ 0 → icm Mp Ep Np Fp Mq Eq Nq Fq ≤ 0 := fun h => by
    refine icm_le9 ?_
    rw [x5, v5]
    exact (dq_le_iff _ _ _).2 (ep_le eap ebq (hc.1 h))
  obtain ⟨ci, hci9⟩ : ∃ z, icm Mp Ep Np Fp Mq Eq Nq Fq = z := ⟨_, rfl⟩
  rw [hci9] at hci g7
  obtain ⟨cz, hcz9⟩ : ∃ z, cmpI (qa * ((2 ^ (-Fp).toNat : Nat) : Int)) (Np * 2 ^ Fp.toNat * (qd : Int)) = z := ⟨_, rfl⟩
  rw [hcz9] at hcz g9
  generalize Np * 2 ^ Fp.toNat = pa at *
  generalize 2 ^ (-Fp).toNat = pd at *
  have G7 := Lib.hid g7
  have G8 := Lib.hid g8
  have G9 := Lib.hid g9
  have d9 : decide (cz ≤ 0) = true := decide_eq_true hcz
  clear g7 g8 g9 w1 w2 w3 hline hcz hcz9 hci9 x1 x2 x3 x4 x5 y1 y2 y3 y4 y5 u1 u2 u3 u4 u5 v1 v2 v3 v4 v5 eap ebp hMp hEp hNp hFp eaq ebq hMq hEq hNq hFq hqe hqp zs1 zs2 hXle hc bk HQ Hap Haq
  rcases Int.lt_or_le 0 cm with hcm | hcm
  · have d1 : decide (cm ≤ 0) = false := decide_eq_false (by omega)
    have c30 := L.tl.tl.tl.b0.c60
    have c31 := L.tl.tl.tl.b0.c61
    have c32 := L.tl.tl.tl.b0.c62
    have c33 := L.tl.tl.tl.b0.c63
    have c34 := L.tl.tl.tl.b0.c64
    have c35 := L.tl.tl.tl.b0.c65
    (try go_wp2_with fail)
    refine (G4.out _ _ (isD_n (m := m) (e := e) (s := .slice A (zl m) c) (L.getN (by simp)))).mono ?_
    rintro e w7 ⟨v9, rfl, iq, be⟩
    clear c30 c31 c32 c33 c34 c35
    replace L := (L.step be).q iq
    clear be iq
    (try go_wp2_with fail)
    refine (G5.out _).mono ?_
    rintro e w8 ⟨v8, rfl, iq, be⟩
    replace L := (L.step be).q iq
    clear be iq
    (try go_wp2_with fail)
    refine (G6.out _ _ _ (L.getQ (by simp)) (L.getQ (by simp))).mono ?_
    rintro e w9 ⟨v7, rfl, iq, be⟩
    replace L := (L.step be).q iq
    obtain ⟨A5, c5, B5, d5, rfl, _, _, _⟩ := iq.form
    clear be iq
    have hl9 := L.b0.lt
    replace L := L.varQ w9.heap.size rfl (ng qa) A5 B5 (zl qa) c5 (len qd) d5
    have c00 := L.b0.c30
    have c01 := L.b0.c31
    have c02 := L.b0.c32
    go_wp2_with fail
    clear c00 c01 c02
    obtain ⟨gl, hgl⟩ : ∃ g9, w9.heap.size = g9 := ⟨_, rfl⟩
    rw [hgl] at L hl9 ⊢
    clear hgl
    have hl_gl := hl9
    clear hl9
    replace L := L.drew
    have c00 := L.b0.c30
    have c01 := L.b0.c31
    have c02 := L.b0.c32
    have c20 := L.tl.tl.b0.c60
    have c21 := L.tl.tl.b0.c61
    have c22 := L.tl.tl.b0.c62
    have c23 := L.tl.tl.b0.c63
    have c24 := L.tl.tl.b0.c64
    have c25 := L.tl.tl.b0.c65
    go_region_held3 (fun w' => w'.cell? ⟨gl, 0, none⟩ = some (.bool (ng qa)) ∧ w'.cell? ⟨gl, 1, none⟩ = some (.slice A5 (zl qa) c5) ∧ w'.cell? ⟨gl, 2, none⟩ = some (.slice B5 (len qd) d5) ∧ w'.cell? ⟨gp, 0, none⟩ = some (.bool (ng Mp)) ∧ w'.cell? ⟨gp, 1, none⟩ = some (.slice A3 (zl Mp) c3) ∧ w'.cell? ⟨gp, 2, none⟩ = some (.int .i64 Ep) ∧ w'.cell? ⟨gp, 3, none⟩ = some (.bool (ng Np)) ∧ w'.cell? ⟨gp, 4, none⟩ = some (.slice B3 (zl Np) d3) ∧ w'.cell? ⟨gp, 5, none⟩ = some (.int .i64 Fp)) (first | (with_reducible exact ⟨L.b0.c30, L.b0.c31, L.b0.c32, L.tl.tl.b0.c60, L.tl.tl.b0.c61, L.tl.tl.b0.c62, L.tl.tl.b0.c63, L.tl.tl.b0.c64, L.tl.tl.b0.c65⟩) | exact ⟨L.b0.c30, L.b0.c31, L.b0.c32, L.tl.tl.b0.c60, L.tl.tl.b0.c61, L.tl.tl.b0.c62, L.tl.tl.b0.c63, L.tl.tl.b0.c64, L.tl.tl.b0.c65⟩) (first | (go_at_call 32; (with_reducible refine (G8.out _ _ ?_).mono ?_); (· (refine isD_n (L.getN ?_); (repeat (first | (with_reducible exact List.mem_cons_self) | apply List.mem_cons_of_mem)))); rintro e wh ⟨vh, rfl, iq, be⟩; replace L := (L.step be).q iq; clear be iq) | (go_at_call 33; (with_reducible refine (G9.out _ _ _ ?_ ?_).mono ?_); (· (refine L.getQ ?_; (repeat (first | (with_reducible exact List.mem_cons_self) | apply List.mem_cons_of_mem)))); (· (refine L.getQ ?_; (repeat (first | (with_reducible exact List.mem_cons_self) | apply List.mem_cons_of_mem)))); rintro e wh ⟨rfl, be⟩; replace L := L.step be; clear be))
    (try go_wp2_with fail)
    (try go_ret)
    exact ⟨rfl, L.below⟩
  · have d1 : decide (cm ≤ 0) = true := decide_eq_true hcm
    have d2 : decide (0 < ci) = false := decide_eq_false (by have := hci hcm; omega)
    have c00 := L.b0.c60
    have c01 := L.b0.c61
    have c02 := L.b0.c62
    have c03 := L.b0.c63
    have c04 := L.b0.c64
    have c05 := L.b0.c65
    have c10 := L.tl.b0.c60
    have c11 := L.tl.b0.c61
    have c12 := L.tl.b0.c62
    have c13 := L.tl.b0.c63
    have c14 := L.tl.b0.c64
    have c15 := L.tl.b0.c65
    (try go_wp2_with fail)
    refine (G7.out _ _ _ (isI_n (m := Mp) (e := Ep) (n := Np) (f := Fp) (s := .slice A3 (zl Mp) c3) (t := .slice B3 (zl Np) d3) (L.getN (by simp)) (L.getN (by simp))) (isI_n (m := Mq) (e := Eq) (n := Nq) (f := Fq) (s := .slice A4 (zl Mq) c4) (t := .slice B4 (zl Nq) d4) (L.getN (by simp)) (L.getN (by simp)))).mono ?_
    rintro e w7 ⟨rfl, be⟩
    clear c00 c01 c02 c03 c04 c05 c10 c11 c12 c13 c14 c15
    replace L := L.step be
    clear be
    have c30 := L.tl.tl.tl.b0.c60
    have c31 := L.tl.tl.tl.b0.c61
    have c32 := L.tl.tl.tl.b0.c62
    have c33 := L.tl.tl.tl.b0.c63
    have c34 := L.tl.tl.tl.b0.c64
    have c35 := L.tl.tl.tl.b0.c65
    (try go_wp2_with fail)
    refine (G4.out _ _ (isD_n (m := m) (e := e) (s := .slice A (zl m) c) (L.getN (by simp)))).mono ?_
    rintro e w8 ⟨v9, rfl, iq, be⟩
    clear c30 c31 c32 c33 c34 c35
    replace L := (L.step be).q iq
    clear be iq
    (try go_wp2_with fail)
    refine (G5.out _).mono ?_
    rintro e w9 ⟨v8, rfl, iq, be⟩
    replace L := (L.step be).q iq
    clear be iq
    (try go_wp2_with fail)
    refine (G6.out _ _ _ (L.getQ (by simp)) (L.getQ (by simp))).mono ?_
    rintro e w10 ⟨v7, rfl, iq, be⟩
    replace L := (L.step be).q iq
    obtain ⟨A5, c5, B5, d5, rfl, _, _, _⟩ := iq.form
    clear be iq
    have hl9 := L.b0.lt
    replace L := L.varQ w10.heap.size rfl (ng qa) A5 B5 (zl qa) c5 (len qd) d5
    have c00 := L.b0.c30
    have c01 := L.b0.c31
    have c02 := L.b0.c32
    go_wp2_with fail
    clear c00 c01 c02
    obtain ⟨gl, hgl⟩ : ∃ g9, w10.heap.size = g9 := ⟨_, rfl⟩
    rw [hgl] at L hl9 ⊢
    clear hgl
    have hl_gl := hl9
    clear hl9
    replace L := L.drew
    have c00 := L.b0.c30
    have c01 := L.b0.c31
    have c02 := L.b0.c32
    have c20 := L.tl.tl.b0.c60
    have c21 := L.tl.tl.b0.c61
    have c22 := L.tl.tl.b0.c62
    have c23 := L.tl.tl.b0.c63
    have c24 := L.tl.tl.b0.c64
    have c25 := L.tl.tl.b0.c65
    go_region_held3 (fun w' => w'.cell? ⟨gl, 0, none⟩ = some (.bool (ng qa)) ∧ w'.cell? ⟨gl, 1, none⟩ = some (.slice A5 (zl qa) c5) ∧ w'.cell? ⟨gl, 2, none⟩ = some (.slice B5 (len qd) d5) ∧ w'.cell? ⟨gp, 0, none⟩ = some (.bool (ng Mp)) ∧ w'.cell? ⟨gp, 1, none⟩ = some (.slice A3 (zl Mp) c3) ∧ w'.cell? ⟨gp, 2, none⟩ = some (.int .i64 Ep) ∧ w'.cell? ⟨gp, 3, none⟩ = some (.bool (ng Np)) ∧ w'.cell? ⟨gp, 4, none⟩ = some (.slice B3 (zl Np) d3) ∧ w'.cell? ⟨gp, 5, none⟩ = some (.int .i64 Fp)) (first | (with_reducible exact ⟨L.b0.c30, L.b0.c31, L.b0.c32, L.tl.tl.b0.c60, L.tl.tl.b0.c61, L.tl.tl.b0.c62, L.tl.tl.b0.c63, L.tl.tl.b0.c64, L.tl.tl.b0.c65⟩) | exact ⟨L.b0.c30, L.b0.c31, L.b0.c32, L.tl.tl.b0.c60, L.tl.tl.b0.c61, L.tl.tl.b0.c62, L.tl.tl.b0.c63, L.tl.tl.b0.c64, L.tl.tl.b0.c65⟩) (first | (go_at_call 32; (with_reducible refine (G8.out _ _ ?_).mono ?_); (· (refine isD_n (L.getN ?_); (repeat (first | (with_reducible exact List.mem_cons_self) | apply List.mem_cons_of_mem)))); rintro e wh ⟨vh, rfl, iq, be⟩; replace L := (L.step be).q iq; clear be iq) | (go_at_call 33; (with_reducible refine (G9.out _ _ _ ?_ ?_).mono ?_); (· (refine L.getQ ?_; (repeat (first | (with_reducible exact List.mem_cons_self) | apply List.mem_cons_of_mem)))); (· (refine L.getQ ?_; (repeat (first | (with_reducible exact List.mem_cons_self) | apply List.mem_cons_of_mem)))); rintro e wh ⟨rfl, be⟩; replace L := L.step be; clear be))
    (try go_wp2_with fail)
    (try go_ret)
    exact ⟨rfl, L.below⟩

end Go.Proofs.YtnnfldkllhdhjaaGreatDoor
