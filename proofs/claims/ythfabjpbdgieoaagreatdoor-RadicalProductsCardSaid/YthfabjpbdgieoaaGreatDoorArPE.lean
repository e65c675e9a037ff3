/- The program's arith: opposite, Add, Sub, Neg, Mul. -/
import Derived.Test.YthfabjpbdgieoaaGreatDoorArPD
import Derived.Test.YthfabjpbdgieoaaGreatDoorBaseX
import Derived.Deep.RegionHeld3
import Derived.Deep.DrawnRows
namespace Go.Proofs.YthfabjpbdgieoaaGreatDoor
open Go.RowKit
set_option linter.unusedVariables false
set_option linter.unusedSimpArgs false
set_option maxRecDepth 100000
attribute [local go_sem ↓] Go.wp_at_zero Go.wp_at_succ

theorem plainI_2 (m1 e1 n1 f1 : Int) (A1 B1 : Option Addr) (c1 d1 : Nat) (m2 e2 n2 f2 : Int) (A2 B2 : Option Addr) (c2 d2 : Nat) : Plain #[.bool (ng m1), .slice A1 (zl m1) c1, .int .i64 e1, .bool (ng n1), .slice B1 (zl n1) d1, .int .i64 f1, .bool (ng m2), .slice A2 (zl m2) c2, .int .i64 e2, .bool (ng n2), .slice B2 (zl n2) d2, .int .i64 f2] := fun j x => by
  match j with
  | 0 => simp
  | 1 => simp
  | 2 => simp
  | 3 => simp
  | 4 => simp
  | 5 => simp
  | 6 => simp
  | 7 => simp
  | 8 => simp
  | 9 => simp
  | 10 => simp
  | 11 => simp
  | j + 12 => simp
theorem rowI_2 {w : World} {g : Nat} {m1 e1 n1 f1 : Int} {A1 B1 : Option Addr} {c1 d1 : Nat} {m2 e2 n2 f2 : Int} {A2 B2 : Option Addr} {c2 d2 : Nat} (hv : Var w g 96 #[.bool (ng m1), .slice A1 (zl m1) c1, .int .i64 e1, .bool (ng n1), .slice B1 (zl n1) d1, .int .i64 f1, .bool (ng m2), .slice A2 (zl m2) c2, .int .i64 e2, .bool (ng n2), .slice B2 (zl n2) d2, .int .i64 f2]) (h1 : IsN w (.slice A1 (zl m1) c1) m1.natAbs) (g1 : IsN w (.slice B1 (zl n1) d1) n1.natAbs) (h2 : IsN w (.slice A2 (zl m2) c2) m2.natAbs) (g2 : IsN w (.slice B2 (zl n2) d2) n2.natAbs) : RowI w (.slice (some ⟨g, 0, none⟩) 2 2) [(m1, e1, n1, f1), (m2, e2, n2, f2)] := by
  refine ⟨g, 2, rfl, hv.lt, fun j p hp => ?_⟩
  match j with
  | 0 =>
    obtain rfl : (m1, e1, n1, f1) = p := by simpa using hp
    exact ⟨A1, c1, B1, d1, hv.cell 0, hv.cell 1, hv.cell 2, hv.cell 3, hv.cell 4, hv.cell 5, h1, g1⟩
  | 1 =>
    obtain rfl : (m2, e2, n2, f2) = p := by simpa using hp
    exact ⟨A2, c2, B2, d2, hv.cell 6, hv.cell 7, hv.cell 8, hv.cell 9, hv.cell 10, hv.cell 11, h2, g2⟩
  | j + 2 => simp at hp
theorem plainI_4 (m1 e1 n1 f1 : Int) (A1 B1 : Option Addr) (c1 d1 : Nat) (m2 e2 n2 f2 : Int) (A2 B2 : Option Addr) (c2 d2 : Nat) (m3 e3 n3 f3 : Int) (A3 B3 : Option Addr) (c3 d3 : Nat) (m4 e4 n4 f4 : Int) (A4 B4 : Option Addr) (c4 d4 : Nat) : Plain #[.bool (ng m1), .slice A1 (zl m1) c1, .int .i64 e1, .bool (ng n1), .slice B1 (zl n1) d1, .int .i64 f1, .bool (ng m2), .slice A2 (zl m2) c2, .int .i64 e2, .bool (ng n2), .slice B2 (zl n2) d2, .int .i64 f2, .bool (ng m3), .slice A3 (zl m3) c3, .int .i64 e3, .bool (ng n3), .slice B3 (zl n3) d3, .int .i64 f3, .bool (ng m4), .slice A4 (zl m4) c4, .int .i64 e4, .bool (ng n4), .slice B4 (zl n4) d4, .int .i64 f4] := fun j x => by
  match j with
  | 0 => simp
  | 1 => simp
  | 2 => simp
  | 3 => simp
  | 4 => simp
  | 5 => simp
  | 6 => simp
  | 7 => simp
  | 8 => simp
  | 9 => simp
  | 10 => simp
  | 11 => simp
  | 12 => simp
  | 13 => simp
  | 14 => simp
  | 15 => simp
  | 16 => simp
  | 17 => simp
  | 18 => simp
  | 19 => simp
  | 20 => simp
  | 21 => simp
  | 22 => simp
  | 23 => simp
  | j + 24 => simp
theorem rowI_4 {w : World} {g : Nat} {m1 e1 n1 f1 : Int} {A1 B1 : Option Addr} {c1 d1 : Nat} {m2 e2 n2 f2 : Int} {A2 B2 : Option Addr} {c2 d2 : Nat} {m3 e3 n3 f3 : Int} {A3 B3 : Option Addr} {c3 d3 : Nat} {m4 e4 n4 f4 : Int} {A4 B4 : Option Addr} {c4 d4 : Nat} (hv : Var w g 96 #[.bool (ng m1), .slice A1 (zl m1) c1, .int .i64 e1, .bool (ng n1), .slice B1 (zl n1) d1, .int .i64 f1, .bool (ng m2), .slice A2 (zl m2) c2, .int .i64 e2, .bool (ng n2), .slice B2 (zl n2) d2, .int .i64 f2, .bool (ng m3), .slice A3 (zl m3) c3, .int .i64 e3, .bool (ng n3), .slice B3 (zl n3) d3, .int .i64 f3, .bool (ng m4), .slice A4 (zl m4) c4, .int .i64 e4, .bool (ng n4), .slice B4 (zl n4) d4, .int .i64 f4]) (h1 : IsN w (.slice A1 (zl m1) c1) m1.natAbs) (g1 : IsN w (.slice B1 (zl n1) d1) n1.natAbs) (h2 : IsN w (.slice A2 (zl m2) c2) m2.natAbs) (g2 : IsN w (.slice B2 (zl n2) d2) n2.natAbs) (h3 : IsN w (.slice A3 (zl m3) c3) m3.natAbs) (g3 : IsN w (.slice B3 (zl n3) d3) n3.natAbs) (h4 : IsN w (.slice A4 (zl m4) c4) m4.natAbs) (g4 : IsN w (.slice B4 (zl n4) d4) n4.natAbs) : RowI w (.slice (some ⟨g, 0, none⟩) 4 4) [(m1, e1, n1, f1), (m2, e2, n2, f2), (m3, e3, n3, f3), (m4, e4, n4, f4)] := by
  refine ⟨g, 4, rfl, hv.lt, fun j p hp => ?_⟩
  match j with
  | 0 =>
    obtain rfl : (m1, e1, n1, f1) = p := by simpa using hp
    exact ⟨A1, c1, B1, d1, hv.cell 0, hv.cell 1, hv.cell 2, hv.cell 3, hv.cell 4, hv.cell 5, h1, g1⟩
  | 1 =>
    obtain rfl : (m2, e2, n2, f2) = p := by simpa using hp
    exact ⟨A2, c2, B2, d2, hv.cell 6, hv.cell 7, hv.cell 8, hv.cell 9, hv.cell 10, hv.cell 11, h2, g2⟩
  | 2 =>
    obtain rfl : (m3, e3, n3, f3) = p := by simpa using hp
    exact ⟨A3, c3, B3, d3, hv.cell 12, hv.cell 13, hv.cell 14, hv.cell 15, hv.cell 16, hv.cell 17, h3, g3⟩
  | 3 =>
    obtain rfl : (m4, e4, n4, f4) = p := by simpa using hp
    exact ⟨A4, c4, B4, d4, hv.cell 18, hv.cell 19, hv.cell 20, hv.cell 21, hv.cell 22, hv.cell 23, h4, g4⟩
  | j + 4 => simp at hp
theorem mk_fits3 {m e : Int} (h : zl m ≤ 500) (h1 : -60000 ≤ e) (h2 : e ≤ 40000) : mkR m e = 0 := by
  unfold mkR
  rw [if_neg (by omega)]
  by_cases h0 : m = 0
  · rw [if_pos h0]
  · rw [if_neg h0]
    have ht := tz_le8 m.natAbs (by omega)
    have e1 : zl m = len m.natAbs := rfl
    have hb : blen (oddM m).natAbs ≤ 65536 := by
      have := blen_le_len (oddM m).natAbs
      have h3 := zl_odd m
      have e2 : zl (oddM m) = len (oddM m).natAbs := rfl
      omega
    have ho : bitB (oddM m).natAbs 0 = true := by
      obtain ⟨k, hk⟩ := tz_form (x := m.natAbs) (by omega)
      have hd : m.natAbs / 2 ^ tz m.natAbs = 2 * k + 1 := by
        have := Nat.mul_div_cancel_left (2 * k + 1) (Nat.pow_pos (n := tz m.natAbs) (show 0 < 2 by omega))
        rwa [← hk] at this
      unfold bitB
      rw [oddM_abs, hd, Nat.pow_zero, Nat.div_one]
      exact decide_eq_true (by omega)
    have hf : fits8 (oddM m) (oddE m e) = true := by
      unfold fits8 oddE
      rw [decide_eq_true hb, decide_eq_true (by omega), decide_eq_true (by omega), ho]
      rfl
    rw [hf]
    rfl
theorem dq00 : dq 0 0 = 0 := rfl
theorem rle_of_eq {a b : Rat} (h : a = b) : a ≤ b := by rw [h]; exact Rat.le_refl
/-- What a sum of two short dyadics is, as combined wants it. -/
theorem sum_ok {m e n f : Int} (lm : zl m ≤ 25) (ln : zl n ≤ 25) (he : -3000 ≤ e ∧ e ≤ 3000) (hf : -3000 ≤ f ∧ f ≤ 3000) : mkR (addS m e n f) (min e f) = 0 ∧ zl (mkM (addS m e n f) (min e f)) ≤ 500 ∧ (-10000 ≤ mkE (addS m e n f) (min e f) ∧ mkE (addS m e n f) (min e f) ≤ 10000) ∧ dOf (mkM (addS m e n f) (min e f), mkE (addS m e n f) (min e f)) = dq m e + dq n f := by
  have z0 := zl_addS m e n f 3000 (by omega) (by omega)
  have r0 := mk_fits3 (m := addS m e n f) (e := min e f) (by omega) (by omega) (by omega)
  have z1 := zl_mk (addS m e n f) (min e f)
  have b1 := mkE_le (m := addS m e n f) (e := min e f) (K := 3000) (by omega) (by omega)
  exact ⟨r0, by omega, by omega, (dq_mk r0).trans (dq_add m e n f)⟩
theorem prod_ok {m e n f : Int} (lm : zl m ≤ 25) (ln : zl n ≤ 25) (he : -3000 ≤ e ∧ e ≤ 3000) (hf : -3000 ≤ f ∧ f ≤ 3000) : mkR (m * n) (e + f) = 0 ∧ zl (mkM (m * n) (e + f)) ≤ 500 ∧ (-10000 ≤ mkE (m * n) (e + f) ∧ mkE (m * n) (e + f) ≤ 10000) ∧ dOf (mkM (m * n) (e + f), mkE (m * n) (e + f)) = dq m e * dq n f := by
  have z0 := zl_mul m n
  have r0 := mk_fits3 (m := m * n) (e := e + f) (by omega) (by omega) (by omega)
  have z1 := zl_mk (m * n) (e + f)
  have b1 := mkE_le (m := m * n) (e := e + f) (K := 6000) (by omega) (by omega)
  exact ⟨r0, by omega, by omega, (dq_mk r0).trans (dq_mul m e n f)⟩
def addR (p : Int × Int × Int × Int) : Int × Int := (mkM (addS p.1 p.2.1 p.2.2.1 p.2.2.2) (min p.2.1 p.2.2.2), mkE (addS p.1 p.2.1 p.2.2.1 p.2.2.2) (min p.2.1 p.2.2.2))
def mulR (p : Int × Int × Int × Int) : Int × Int := (mkM (p.1 * p.2.2.1) (p.2.1 + p.2.2.2), mkE (p.1 * p.2.2.1) (p.2.1 + p.2.2.2))

set_option maxHeartbeats 16000000 in
theorem amul_any (m e n f m2 e2 n2 f2 k : Int) (vx vy : Value) (w : World) (hx : IsI w vx m e n f) (hy : IsI w vy m2 e2 n2 f2) (lm : zl m ≤ 25) (ln : zl n ≤ 25) (lm2 : zl m2 ≤ 25) (ln2 : zl n2 ≤ 25) (he : -3000 ≤ e ∧ e ≤ 3000) (hf : -3000 ≤ f ∧ f ≤ 3000) (he2 : -3000 ≤ e2 ∧ e2 ≤ 3000) (hf2 : -3000 ≤ f2 ∧ f2 ≤ 3000) (hd1 : dcm m e n f ≤ 0) (hd2 : dcm m2 e2 n2 f2 ≤ 0) (hk1 : -9223372036854775808 ≤ k) (hk2 : k ≤ 9223372036854775807) (hT : Tab w) :
    Calls Tryz.prog 34 #[vx, vy, .int .i64 k] w (RetEn w (min4 (dq m e * dq m2 e2) (dq m e * dq n2 f2) (dq n f * dq m2 e2) (dq n f * dq n2 f2)) (max4 (dq m e * dq m2 e2) (dq m e * dq n2 f2) (dq n f * dq m2 e2) (dq n f * dq n2 f2)) k) := by
  obtain ⟨A, c, B, d, rfl, hn1, hn2⟩ := hx.form
  obtain ⟨A2, k2, B2, d2, rfl, hn3, hn4⟩ := hy.form
  have L0 := ((((Lq.mk0 w).n hn4).n hn3).n hn2).n hn1
  have hen : ∀ args w, (callFunc 52 args).run Tryz.prog w = .ok (.enter 52 args) w := enters_of Tryz.func52 (by kernel_rfl) rfl
  have k0 := prod_ok lm lm2 he he2
  have k1 := prod_ok lm ln2 he hf2
  have k2 := prod_ok ln lm2 hf he2
  have k3 := prod_ok ln ln2 hf hf2
  have hmem : ∀ (P : Int × Int × Int × Int → Prop), P (m, e, m2, e2) → P (m, e, n2, f2) → P (n, f, m2, e2) → P (n, f, n2, f2) → ∀ p ∈ [(m, e, m2, e2), (m, e, n2, f2), (n, f, m2, e2), (n, f, n2, f2)], P p := fun P q0 q1 q2 q3 p hp => by
    simp only [List.mem_cons, List.not_mem_nil, or_false] at hp
    rcases hp with rfl | rfl | rfl | rfl <;> assumption
  have hop : ∀ p ∈ [(m, e, m2, e2), (m, e, n2, f2), (n, f, m2, e2), (n, f, n2, f2)], ∀ vx vy W, IsD W vx p.1 p.2.1 → IsD W vy p.2.2.1 p.2.2.2 → Below w.heap.size w W → Calls Tryz.prog 52 #[vx, vy] W (RetDE W (mulR p).1 (mulR p).2 0) := hmem _
    (fun vx vy W h1 h2 hW => by have := dmul_any m e m2 e2 vx vy W h1 h2 (by omega) (by omega) (by omega) (by omega) (hT.mono hW); rw [k0.1] at this; exact this)
    (fun vx vy W h1 h2 hW => by have := dmul_any m e n2 f2 vx vy W h1 h2 (by omega) (by omega) (by omega) (by omega) (hT.mono hW); rw [k1.1] at this; exact this)
    (fun vx vy W h1 h2 hW => by have := dmul_any n f m2 e2 vx vy W h1 h2 (by omega) (by omega) (by omega) (by omega) (hT.mono hW); rw [k2.1] at this; exact this)
    (fun vx vy W h1 h2 hW => by have := dmul_any n f n2 f2 vx vy W h1 h2 (by omega) (by omega) (by omega) (by omega) (hT.mono hW); rw [k3.1] at this; exact this)
  have hrb : ∀ p ∈ [(m, e, m2, e2), (m, e, n2, f2), (n, f, m2, e2), (n, f, n2, f2)], zl (mulR p).1 ≤ 500 ∧ (-10000 ≤ (mulR p).2 ∧ (mulR p).2 ≤ 10000) := hmem _ ⟨k0.2.1, k0.2.2.1⟩ ⟨k1.2.1, k1.2.2.1⟩ ⟨k2.2.1, k2.2.2.1⟩ ⟨k3.2.1, k3.2.2.1⟩
  have j0 : dOf (mulR (m, e, m2, e2)) = dq m e * dq m2 e2 := k0.2.2.2
  have j1 : dOf (mulR (m, e, n2, f2)) = dq m e * dq n2 f2 := k1.2.2.2
  have j2 : dOf (mulR (n, f, m2, e2)) = dq n f * dq m2 e2 := k2.2.2.2
  have j3 : dOf (mulR (n, f, n2, f2)) = dq n f * dq n2 f2 := k3.2.2.2
  obtain ⟨a1, a2, a3, a4⟩ := min4_le (dq m e * dq m2 e2) (dq m e * dq n2 f2) (dq n f * dq m2 e2) (dq n f * dq n2 f2)
  obtain ⟨b1, b2, b3, b4⟩ := le_max4 (dq m e * dq m2 e2) (dq m e * dq n2 f2) (dq n f * dq m2 e2) (dq n f * dq n2 f2)
  have hlo : (∃ p ∈ [(m, e, m2, e2), (m, e, n2, f2), (n, f, m2, e2), (n, f, n2, f2)], dOf (mulR p) = min4 (dq m e * dq m2 e2) (dq m e * dq n2 f2) (dq n f * dq m2 e2) (dq n f * dq n2 f2)) ∧ ∀ p ∈ [(m, e, m2, e2), (m, e, n2, f2), (n, f, m2, e2), (n, f, n2, f2)], min4 (dq m e * dq m2 e2) (dq m e * dq n2 f2) (dq n f * dq m2 e2) (dq n f * dq n2 f2) ≤ dOf (mulR p) := by
    refine ⟨?_, hmem _ (by rw [j0]; exact a1) (by rw [j1]; exact a2) (by rw [j2]; exact a3) (by rw [j3]; exact a4)⟩
    rcases min4_or (dq m e * dq m2 e2) (dq m e * dq n2 f2) (dq n f * dq m2 e2) (dq n f * dq n2 f2) with h | h | h | h <;> rw [h]
    · exact ⟨(m, e, m2, e2), by simp, j0⟩
    · exact ⟨(m, e, n2, f2), by simp, j1⟩
    · exact ⟨(n, f, m2, e2), by simp, j2⟩
    · exact ⟨(n, f, n2, f2), by simp, j3⟩
  have hhi : (∃ p ∈ [(m, e, m2, e2), (m, e, n2, f2), (n, f, m2, e2), (n, f, n2, f2)], dOf (mulR p) = max4 (dq m e * dq m2 e2) (dq m e * dq n2 f2) (dq n f * dq m2 e2) (dq n f * dq n2 f2)) ∧ ∀ p ∈ [(m, e, m2, e2), (m, e, n2, f2), (n, f, m2, e2), (n, f, n2, f2)], dOf (mulR p) ≤ max4 (dq m e * dq m2 e2) (dq m e * dq n2 f2) (dq n f * dq m2 e2) (dq n f * dq n2 f2) := by
    refine ⟨?_, hmem _ (by rw [j0]; exact b1) (by rw [j1]; exact b2) (by rw [j2]; exact b3) (by rw [j3]; exact b4)⟩
    rcases max4_or (dq m e * dq m2 e2) (dq m e * dq n2 f2) (dq n f * dq m2 e2) (dq n f * dq n2 f2) with h | h | h | h <;> rw [h]
    · exact ⟨(m, e, m2, e2), by simp, j0⟩
    · exact ⟨(m, e, n2, f2), by simp, j1⟩
    · exact ⟨(n, f, m2, e2), by simp, j2⟩
    · exact ⟨(n, f, n2, f2), by simp, j3⟩
  obtain ⟨lo, hlo9⟩ : ∃ x, min4 (dq m e * dq m2 e2) (dq m e * dq n2 f2) (dq n f * dq m2 e2) (dq n f * dq n2 f2) = x := ⟨_, rfl⟩
  obtain ⟨hi, hhi9⟩ : ∃ x, max4 (dq m e * dq m2 e2) (dq m e * dq n2 f2) (dq n f * dq m2 e2) (dq n f * dq n2 f2) = x := ⟨_, rfl⟩
  rw [hlo9] at hlo ⊢
  rw [hhi9] at hhi ⊢
  have HC := Lib.hid (fun vl W (h : RowI W vl [(m, e, m2, e2), (m, e, n2, f2), (n, f, m2, e2), (n, f, n2, f2)]) (hW : Below w.heap.size w W) => acomb_any 52 hen [(m, e, m2, e2), (m, e, n2, f2), (n, f, m2, e2), (n, f, n2, f2)] mulR lo hi k vl W h (by simp) (by simp) (fun p hp vx vy W2 h1 h2 h3 => hop p hp vx vy W2 h1 h2 (hW.trans (h3.mono hW.size))) hrb hlo hhi hk1 hk2 (hT.mono hW))
  clear hen hop hrb hlo hhi hlo9 hhi9 hmem k0 k1 k2 k3 hx hy hn1 hn2 hn3 hn4 lm ln lm2 ln2 he hf he2 hf2 hd1 hd2 hk1 hk2 hT j0 j1 j2 j3 a1 a2 a3 a4 b1 b2 b3 b4
  go_enter Tryz.func34, Tryz.ntmps34
  go_wp2_with fail
  have L := (((L0.varI (w.heap.size) (by simp) (ng m) A (zl m) c e (ng n) B (zl n) d f).varI (w.heap.size + 1) (by simp) (ng m2) A2 (zl m2) k2 e2 (ng n2) B2 (zl n2) d2 f2).varI (w.heap.size + 2) (by simp) false none 0 0 0 false none 0 0 0)
  have c00 := L.b0.c60
  have c01 := L.b0.c61
  have c02 := L.b0.c62
  have c03 := L.b0.c63
  have c04 := L.b0.c64
  have c05 := L.b0.c65
  have c10 := L.tl.b0.c60
  have c11 := L.tl.b0.c61
  have c12 := L.tl.b0.c62
  have c13 := L.tl.b0.c63
  have c14 := L.tl.b0.c64
  have c15 := L.tl.b0.c65
  have c20 := L.tl.tl.b0.c60
  have c21 := L.tl.tl.b0.c61
  have c22 := L.tl.tl.b0.c62
  have c23 := L.tl.tl.b0.c63
  have c24 := L.tl.tl.b0.c64
  have c25 := L.tl.tl.b0.c65
  go_wp2_with fail
  clear c00 c01 c02 c03 c04 c05 c10 c11 c12 c13 c14 c15 c20 c21 c22 c23 c24 c25
  replace L := L.var (w.heap.size + 3) (by simp) 96 #[.bool (ng m), .slice A (zl m) c, .int .i64 e, .bool (ng m2), .slice A2 (zl m2) k2, .int .i64 e2, .bool (ng m), .slice A (zl m) c, .int .i64 e, .bool (ng n2), .slice B2 (zl n2) d2, .int .i64 f2, .bool (ng n), .slice B (zl n) d, .int .i64 f, .bool (ng m2), .slice A2 (zl m2) k2, .int .i64 e2, .bool (ng n), .slice B (zl n) d, .int .i64 f, .bool (ng n2), .slice B2 (zl n2) d2, .int .i64 f2] (plainI_4 _ _ _ _ _ _ _ _ _ _ _ _ _ _ _ _ _ _ _ _ _ _ _ _ _ _ _ _ _ _ _ _)
  obtain ⟨gl, hgl⟩ : ∃ gl, w.heap.size + 1 + 1 + 1 = gl := ⟨_, rfl⟩
  have hgl2 : w.heap.size + 3 = gl := hgl
  obtain ⟨gr, hgr⟩ : ∃ gr, w.heap.size + 1 + 1 = gr := ⟨_, rfl⟩
  have hgr2 : w.heap.size + 2 = gr := hgr
  rw [hgl2, hgr2] at L
  rw [hgl, hgr]
  have hgl3 : w.heap.size + 2 < gl := by omega
  have hgr3 : w.heap.size + 1 < gr := by omega
  have hgl4 : gr < gl := by omega
  clear hgl hgl2 hgr hgr2
  refine (HC.out _ _ (rowI_4 L.b0 (L.getN (v := .slice A (zl m) c) (x := (m).natAbs) (by simp)) (L.getN (v := .slice A2 (zl m2) k2) (x := (m2).natAbs) (by simp)) (L.getN (v := .slice A (zl m) c) (x := (m).natAbs) (by simp)) (L.getN (v := .slice B2 (zl n2) d2) (x := (n2).natAbs) (by simp)) (L.getN (v := .slice B (zl n) d) (x := (n).natAbs) (by simp)) (L.getN (v := .slice A2 (zl m2) k2) (x := (m2).natAbs) (by simp)) (L.getN (v := .slice B (zl n) d) (x := (n).natAbs) (by simp)) (L.getN (v := .slice B2 (zl n2) d2) (x := (n2).natAbs) (by simp))) L.below).mono ?_
  intro e9 w19 hen
  obtain ⟨v19, er, m9, e9', n9, f9, rfl, ii, be, hback⟩ := hen.form
  obtain ⟨A5, c5, B5, d5, rfl, ia, ib⟩ := ii.form
  replace L := (((L.step be).n ib).n ia).swap
  clear be ii ia ib hen
  have HBK := Lib.hid hback
  clear hback
  have c00 := L.b0.c60
  have f00 := L.b0.fr 0
  have c01 := L.b0.c61
  have f01 := L.b0.fr 1
  have c02 := L.b0.c62
  have f02 := L.b0.fr 2
  have c03 := L.b0.c63
  have f03 := L.b0.fr 3
  have c04 := L.b0.c64
  have f04 := L.b0.fr 4
  have c05 := L.b0.c65
  have f05 := L.b0.fr 5
  go_wp2_with fail
  have LP := L.putI (by omega) (by first | (simp; done) | (simp; omega)) (ng m9) A5 (zl m9) c5 e9' (ng n9) B5 (zl n9) d5 f9
  have k0' := LP.b0.c60
  have k1' := LP.b0.c61
  have k2' := LP.b0.c62
  have k3' := LP.b0.c63
  have k4' := LP.b0.c64
  have k5' := LP.b0.c65
  unfold put6 at k0' k1' k2' k3' k4' k5'
  exact bodyPost_ret (v := .tuple #[.agg #[.bool (ng m9), .slice A5 (zl m9) c5, .int .i64 e9', .bool (ng n9), .slice B5 (zl n9) d5, .int .i64 f9], .int .i64 er]) (by simp [results, Tryz.results34, go_sem, k0', k1', k2', k3', k4', k5']) rfl (HBK.out _ _ _ (isI_n (LP.getN (by simp)) (LP.getN (by simp))) LP.below)
end Go.Proofs.YthfabjpbdgieoaaGreatDoor
