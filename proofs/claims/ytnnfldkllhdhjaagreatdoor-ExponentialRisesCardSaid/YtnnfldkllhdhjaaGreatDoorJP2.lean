/- Joined: ArPE, ArPF, ArDv, ArPHp, CoA, RefCoA, RefExA, ExPA, ExPB, ExPW, ExY, RdA, RdB, ExPC, ExF, RefCoC, RefCoD, ExQ, RefExE, ExH, MillAr, ExK, IvPE (what the law leans on). -/
import Derived.Test.YtnnfldkllhdhjaaGreatDoorBaseJP
import Derived.Test.YtnnfldkllhdhjaaGreatDoorBaseDP
import Derived.Test.YtnnfldkllhdhjaaGreatDoorBaseEP
import Derived.Test.YtnnfldkllhdhjaaGreatDoorBaseMP
import Derived.Test.YtnnfldkllhdhjaaGreatDoorBaseVP
import Derived.Test.YtnnfldkllhdhjaaGreatDoorBaseGP
import Derived.Test.YtnnfldkllhdhjaaGreatDoorBaseSP
import Derived.Test.YtnnfldkllhdhjaaGreatDoorRefDivModP
import Derived.Test.YtnnfldkllhdhjaaGreatDoorRefGrAP
import Derived.Test.YtnnfldkllhdhjaaGreatDoorBaseWP
import Derived.Test.YtnnfldkllhdhjaaGreatDoorRefGrBP
import Derived.Test.YtnnfldkllhdhjaaGreatDoorBaseXP
import Derived.Test.YtnnfldkllhdhjaaGreatDoorGrPCP
import Derived.Test.YtnnfldkllhdhjaaGreatDoorBaseUP
import Derived.Test.YtnnfldkllhdhjaaGreatDoorJP1
import Derived.BigQuiet
import Derived.Deep.Cut
import Derived.Deep.CutRange
import Derived.Deep.DrawnRows
import Derived.Deep.QuietTactic
import Derived.Deep.RegionHeld3
import Derived.Deep.RegionWith
namespace Go.Proofs.YtnnfldkllhdhjaaGreatDoor
open Go.RowKit
set_option linter.unusedVariables false
set_option linter.unusedSimpArgs false
set_option maxRecDepth 100000
attribute [local go_sem ↓] Go.wp_at_zero Go.wp_at_succ

theorem plainI_2 (m1 e1 n1 f1 : Int) (A1 B1 : Option Addr) (c1 d1 : Nat) (m2 e2 n2 f2 : Int) (A2 B2 : Option Addr) (c2 d2 : Nat) : Plain #[.bool (ng m1), .slice A1 (zl m1) c1, .int .i64 e1, .bool (ng n1), .slice B1 (zl n1) d1, .int .i64 f1, .bool (ng m2), .slice A2 (zl m2) c2, .int .i64 e2, .bool (ng n2), .slice B2 (zl n2) d2, .int .i64 f2] := fun j x => by
  match j with
  | 0 => simp
  | 1 => simp
  | 2 => simp
  | 3 => simp
  | 4 => simp
  | 5 => simp
  | 6 => simp
  | 7 => simp
  | 8 => simp
  | 9 => simp
  | 10 => simp
  | 11 => simp
  | j + 12 => simp
theorem rowI_2 {w : World} {g : Nat} {m1 e1 n1 f1 : Int} {A1 B1 : Option Addr} {c1 d1 : Nat} {m2 e2 n2 f2 : Int} {A2 B2 : Option Addr} {c2 d2 : Nat} (hv : Var w g 99 #[.bool (ng m1), .slice A1 (zl m1) c1, .int .i64 e1, .bool (ng n1), .slice B1 (zl n1) d1, .int .i64 f1, .bool (ng m2), .slice A2 (zl m2) c2, .int .i64 e2, .bool (ng n2), .slice B2 (zl n2) d2, .int .i64 f2]) (h1 : IsN w (.slice A1 (zl m1) c1) m1.natAbs) (g1 : IsN w (.slice B1 (zl n1) d1) n1.natAbs) (h2 : IsN w (.slice A2 (zl m2) c2) m2.natAbs) (g2 : IsN w (.slice B2 (zl n2) d2) n2.natAbs) : RowI w (.slice (some ⟨g, 0, none⟩) 2 2) [(m1, e1, n1, f1), (m2, e2, n2, f2)] := by
  refine ⟨g, 2, rfl, hv.lt, fun j p hp => ?_⟩
  match j with
  | 0 =>
    obtain rfl : (m1, e1, n1, f1) = p := by simpa using hp
    exact ⟨A1, c1, B1, d1, hv.cell 0, hv.cell 1, hv.cell 2, hv.cell 3, hv.cell 4, hv.cell 5, h1, g1⟩
  | 1 =>
    obtain rfl : (m2, e2, n2, f2) = p := by simpa using hp
    exact ⟨A2, c2, B2, d2, hv.cell 6, hv.cell 7, hv.cell 8, hv.cell 9, hv.cell 10, hv.cell 11, h2, g2⟩
  | j + 2 => simp at hp
theorem plainI_4 (m1 e1 n1 f1 : Int) (A1 B1 : Option Addr) (c1 d1 : Nat) (m2 e2 n2 f2 : Int) (A2 B2 : Option Addr) (c2 d2 : Nat) (m3 e3 n3 f3 : Int) (A3 B3 : Option Addr) (c3 d3 : Nat) (m4 e4 n4 f4 : Int) (A4 B4 : Option Addr) (c4 d4 : Nat) : Plain #[.bool (ng m1), .slice A1 (zl m1) c1, .int .i64 e1, .bool (ng n1), .slice B1 (zl n1) d1, .int .i64 f1, .bool (ng m2), .slice A2 (zl m2) c2, .int .i64 e2, .bool (ng n2), .slice B2 (zl n2) d2, .int .i64 f2, .bool (ng m3), .slice A3 (zl m3) c3, .int .i64 e3, .bool (ng n3), .slice B3 (zl n3) d3, .int .i64 f3, .bool (ng m4), .slice A4 (zl m4) c4, .int .i64 e4, .bool (ng n4), .slice B4 (zl n4) d4, .int .i64 f4] := fun j x => by
  match j with
  | 0 => simp
  | 1 => simp
  | 2 => simp
  | 3 => simp
  | 4 => simp
  | 5 => simp
  | 6 => simp
  | 7 => simp
  | 8 => simp
  | 9 => simp
  | 10 => simp
  | 11 => simp
  | 12 => simp
  | 13 => simp
  | 14 => simp
  | 15 => simp
  | 16 => simp
  | 17 => simp
  | 18 => simp
  | 19 => simp
  | 20 => simp
  | 21 => simp
  | 22 => simp
  | 23 => simp
  | j + 24 => simp
theorem rowI_4 {w : World} {g : Nat} {m1 e1 n1 f1 : Int} {A1 B1 : Option Addr} {c1 d1 : Nat} {m2 e2 n2 f2 : Int} {A2 B2 : Option Addr} {c2 d2 : Nat} {m3 e3 n3 f3 : Int} {A3 B3 : Option Addr} {c3 d3 : Nat} {m4 e4 n4 f4 : Int} {A4 B4 : Option Addr} {c4 d4 : Nat} (hv : Var w g 99 #[.bool (ng m1), .slice A1 (zl m1) c1, .int .i64 e1, .bool (ng n1), .slice B1 (zl n1) d1, .int .i64 f1, .bool (ng m2), .slice A2 (zl m2) c2, .int .i64 e2, .bool (ng n2), .slice B2 (zl n2) d2, .int .i64 f2, .bool (ng m3), .slice A3 (zl m3) c3, .int .i64 e3, .bool (ng n3), .slice B3 (zl n3) d3, .int .i64 f3, .bool (ng m4), .slice A4 (zl m4) c4, .int .i64 e4, .bool (ng n4), .slice B4 (zl n4) d4, .int .i64 f4]) (h1 : IsN w (.slice A1 (zl m1) c1) m1.natAbs) (g1 : IsN w (.slice B1 (zl n1) d1) n1.natAbs) (h2 : IsN w (.slice A2 (zl m2) c2) m2.natAbs) (g2 : IsN w (.slice B2 (zl n2) d2) n2.natAbs) (h3 : IsN w (.slice A3 (zl m3) c3) m3.natAbs) (g3 : IsN w (.slice B3 (zl n3) d3) n3.natAbs) (h4 : IsN w (.slice A4 (zl m4) c4) m4.natAbs) (g4 : IsN w (.slice B4 (zl n4) d4) n4.natAbs) : RowI w (.slice (some ⟨g, 0, none⟩) 4 4) [(m1, e1, n1, f1), (m2, e2, n2, f2), (m3, e3, n3, f3), (m4, e4, n4, f4)] := by
  refine ⟨g, 4, rfl, hv.lt, fun j p hp => ?_⟩
  match j with
  | 0 =>
    obtain rfl : (m1, e1, n1, f1) = p := by simpa using hp
    exact ⟨A1, c1, B1, d1, hv.cell 0, hv.cell 1, hv.cell 2, hv.cell 3, hv.cell 4, hv.cell 5, h1, g1⟩
  | 1 =>
    obtain rfl : (m2, e2, n2, f2) = p := by simpa using hp
    exact ⟨A2, c2, B2, d2, hv.cell 6, hv.cell 7, hv.cell 8, hv.cell 9, hv.cell 10, hv.cell 11, h2, g2⟩
  | 2 =>
    obtain rfl : (m3, e3, n3, f3) = p := by simpa using hp
    exact ⟨A3, c3, B3, d3, hv.cell 12, hv.cell 13, hv.cell 14, hv.cell 15, hv.cell 16, hv.cell 17, h3, g3⟩
  | 3 =>
    obtain rfl : (m4, e4, n4, f4) = p := by simpa using hp
    exact ⟨A4, c4, B4, d4, hv.cell 18, hv.cell 19, hv.cell 20, hv.cell 21, hv.cell 22, hv.cell 23, h4, g4⟩
  | j + 4 => simp at hp
theorem mk_fits3 {m e : Int} (h : zl m ≤ 500) (h1 : -60000 ≤ e) (h2 : e ≤ 40000) : mkR m e = 0 := by
  unfold mkR
  rw [if_neg (by omega)]
  by_cases h0 : m = 0
  · rw [if_pos h0]
  · rw [if_neg h0]
    have ht := tz_le8 m.natAbs (by omega)
    have e1 : zl m = len m.natAbs := rfl
    have hb : blen (oddM m).natAbs ≤ 65536 := by
      have := blen_le_len (oddM m).natAbs
      have h3 := zl_odd m
      have e2 : zl (oddM m) = len (oddM m).natAbs := rfl
      omega
    have ho : bitB (oddM m).natAbs 0 = true := by
      obtain ⟨k, hk⟩ := tz_form (x := m.natAbs) (by omega)
      have hd : m.natAbs / 2 ^ tz m.natAbs = 2 * k + 1 := by
        have := Nat.mul_div_cancel_left (2 * k + 1) (Nat.pow_pos (n := tz m.natAbs) (show 0 < 2 by omega))
        rwa [← hk] at this
      unfold bitB
      rw [oddM_abs, hd, Nat.pow_zero, Nat.div_one]
      exact decide_eq_true (by omega)
    have hf : fits8 (oddM m) (oddE m e) = true := by
      unfold fits8 oddE
      rw [decide_eq_true hb, decide_eq_true (by omega), decide_eq_true (by omega), ho]
      rfl
    rw [hf]
    rfl
theorem dq00 : dq 0 0 = 0 := rfl
theorem rle_of_eq {a b : Rat} (h : a = b) : a ≤ b := by rw [h]; exact Rat.le_refl
/-- What a sum of two short dyadics is, as combined wants it. -/
theorem sum_ok {m e n f : Int} (lm : zl m ≤ 25) (ln : zl n ≤ 25) (he : -3000 ≤ e ∧ e ≤ 3000) (hf : -3000 ≤ f ∧ f ≤ 3000) : mkR (addS m e n f) (min e f) = 0 ∧ zl (mkM (addS m e n f) (min e f)) ≤ 500 ∧ (-10000 ≤ mkE (addS m e n f) (min e f) ∧ mkE (addS m e n f) (min e f) ≤ 10000) ∧ dOf (mkM (addS m e n f) (min e f), mkE (addS m e n f) (min e f)) = dq m e + dq n f := by
  have z0 := zl_addS m e n f 3000 (by omega) (by omega)
  have r0 := mk_fits3 (m := addS m e n f) (e := min e f) (by omega) (by omega) (by omega)
  have z1 := zl_mk (addS m e n f) (min e f)
  have b1 := mkE_le (m := addS m e n f) (e := min e f) (K := 3000) (by omega) (by omega)
  exact ⟨r0, by omega, by omega, (dq_mk r0).trans (dq_add m e n f)⟩
theorem prod_ok {m e n f : Int} (lm : zl m ≤ 25) (ln : zl n ≤ 25) (he : -3000 ≤ e ∧ e ≤ 3000) (hf : -3000 ≤ f ∧ f ≤ 3000) : mkR (m * n) (e + f) = 0 ∧ zl (mkM (m * n) (e + f)) ≤ 500 ∧ (-10000 ≤ mkE (m * n) (e + f) ∧ mkE (m * n) (e + f) ≤ 10000) ∧ dOf (mkM (m * n) (e + f), mkE (m * n) (e + f)) = dq m e * dq n f := by
  have z0 := zl_mul m n
  have r0 := mk_fits3 (m := m * n) (e := e + f) (by omega) (by omega) (by omega)
  have z1 := zl_mk (m * n) (e + f)
  have b1 := mkE_le (m := m * n) (e := e + f) (K := 6000) (by omega) (by omega)
  exact ⟨r0, by omega, by omega, (dq_mk r0).trans (dq_mul m e n f)⟩
def addR (p : Int × Int × Int × Int) : Int × Int := (mkM (addS p.1 p.2.1 p.2.2.1 p.2.2.2) (min p.2.1 p.2.2.2), mkE (addS p.1 p.2.1 p.2.2.1 p.2.2.2) (min p.2.1 p.2.2.2))
def mulR (p : Int × Int × Int × Int) : Int × Int := (mkM (p.1 * p.2.2.1) (p.2.1 + p.2.2.2), mkE (p.1 * p.2.2.1) (p.2.1 + p.2.2.2))

set_option maxHeartbeats 8000000 in
theorem aopp_any (m e n f : Int) (vx : Value) (w : World) (hx : IsI w vx m e n f) (lm : zl m ≤ 1000) (ln : zl n ≤ 1000) (he : -20000 ≤ e ∧ e ≤ 20000) (hf : -20000 ≤ f ∧ f ≤ 20000) :
    Calls Tryz.prog 136 #[vx] w (RetI6 w (-n) f (-m) e) := by
  obtain ⟨A, c, B, d, rfl, hn1, hn2⟩ := hx.form
  have L0 := ((Lq.mk0 w).n hn2).n hn1
  have h1 := fun v W h => dneg_any n f v W h (by omega)
  have h2 := fun v W h => dneg_any m e v W h (by omega)
  obtain ⟨nn, hnn⟩ : ∃ x, -n = x := ⟨_, rfl⟩
  obtain ⟨nm, hnm⟩ : ∃ x, -m = x := ⟨_, rfl⟩
  rw [hnn] at h1 ⊢
  rw [hnm] at h2 ⊢
  have H1 := Lib.hid h1
  have H2 := Lib.hid h2
  clear h1 h2 hnn hnm hx hn1 hn2 lm ln he hf
  go_enter Tryz.func136, Tryz.ntmps136
  go_wp2_with fail
  have L := ((L0.varI (w.heap.size) (by simp) (ng m) A (zl m) c e (ng n) B (zl n) d f).varI (w.heap.size + 1) (by simp) false none 0 0 0 false none 0 0 0)
  replace L := L.drew
  have c00 := L.b0.c60
  have f00 := L.b0.fr 0
  have c01 := L.b0.c61
  have f01 := L.b0.fr 1
  have c02 := L.b0.c62
  have f02 := L.b0.fr 2
  have c03 := L.b0.c63
  have f03 := L.b0.fr 3
  have c04 := L.b0.c64
  have f04 := L.b0.fr 4
  have c05 := L.b0.c65
  have f05 := L.b0.fr 5
  have c10 := L.tl.b0.c60
  have c11 := L.tl.b0.c61
  have c12 := L.tl.b0.c62
  have c13 := L.tl.b0.c63
  have c14 := L.tl.b0.c64
  have c15 := L.tl.b0.c65
  go_region_held3 (fun w' => w'.cell? ⟨w.heap.size, 0, none⟩ = some (.bool (ng m)) ∧ w'.cell? ⟨w.heap.size, 1, none⟩ = some (.slice A (zl m) c) ∧ w'.cell? ⟨w.heap.size, 2, none⟩ = some (.int .i64 e) ∧ w'.cell? ⟨w.heap.size, 3, none⟩ = some (.bool (ng n)) ∧ w'.cell? ⟨w.heap.size, 4, none⟩ = some (.slice B (zl n) d) ∧ w'.cell? ⟨w.heap.size, 5, none⟩ = some (.int .i64 f)) (first | (with_reducible exact ⟨L.tl.b0.c60, L.tl.b0.c61, L.tl.b0.c62, L.tl.b0.c63, L.tl.b0.c64, L.tl.b0.c65⟩) | (have LP := L.putI (by omega) (by first | (simp; done) | (simp; omega)) (ng nn) A8 (zl nn) c8 (f) (ng nm) A9 (zl nm) c9 (e); unfold put6 at LP; with_reducible exact ⟨LP.tl.b0.c60, LP.tl.b0.c61, LP.tl.b0.c62, LP.tl.b0.c63, LP.tl.b0.c64, LP.tl.b0.c65⟩) | exact ⟨L.tl.b0.c60, L.tl.b0.c61, L.tl.b0.c62, L.tl.b0.c63, L.tl.b0.c64, L.tl.b0.c65⟩) (first | (go_at_call 115; (with_reducible refine (H1.out _ _ ?_ ).mono ?_); (· (refine isD_n (L.getN ?_); (repeat (first | (with_reducible exact List.mem_cons_self) | apply List.mem_cons_of_mem)))); rintro e wh ⟨vh, rfl, id, be⟩; obtain ⟨A8, c8, rfl, _, in9⟩ := id.form; replace L := (L.step be).n in9; clear be id in9; (try (have x00 := L.b0.c60; have y00 := L.b0.fr 0; have x01 := L.b0.c61; have y01 := L.b0.fr 1; have x02 := L.b0.c62; have y02 := L.b0.fr 2; have x03 := L.b0.c63; have y03 := L.b0.fr 3; have x04 := L.b0.c64; have y04 := L.b0.fr 4; have x05 := L.b0.c65; have y05 := L.b0.fr 5))) | (go_at_call 115; (with_reducible refine (H2.out _ _ ?_ ).mono ?_); (· (refine isD_n (L.getN ?_); (repeat (first | (with_reducible exact List.mem_cons_self) | apply List.mem_cons_of_mem)))); rintro e wh ⟨vh, rfl, id, be⟩; obtain ⟨A9, c9, rfl, _, in9⟩ := id.form; replace L := (L.step be).n in9; clear be id in9; (try (have x00 := L.b0.c60; have y00 := L.b0.fr 0; have x01 := L.b0.c61; have y01 := L.b0.fr 1; have x02 := L.b0.c62; have y02 := L.b0.fr 2; have x03 := L.b0.c63; have y03 := L.b0.fr 3; have x04 := L.b0.c64; have y04 := L.b0.fr 4; have x05 := L.b0.c65; have y05 := L.b0.fr 5))))
  clear c00 f00 c01 f01 c02 f02 c03 f03 c04 f04 c05 f05 c10 c11 c12 c13 c14 c15
  go_wp2_with fail
  have LP := L.putI (by omega) (by first | (simp; done) | (simp; omega)) (ng nn) A8 (zl nn) c8 f (ng nm) A9 (zl nm) c9 e
  have k0 := LP.b0.c60
  have k1 := LP.b0.c61
  have k2 := LP.b0.c62
  have k3 := LP.b0.c63
  have k4 := LP.b0.c64
  have k5 := LP.b0.c65
  unfold put6 at k0 k1 k2 k3 k4 k5
  exact bodyPost_ret (v := .agg #[.bool (ng nn), .slice A8 (zl nn) c8, .int .i64 f, .bool (ng nm), .slice A9 (zl nm) c9, .int .i64 e]) (by simp [results, Tryz.results136, go_sem, k0, k1, k2, k3, k4, k5]) rfl ⟨_, rfl, isI_n (LP.getN (by simp)) (LP.getN (by simp)), LP.below⟩
set_option maxHeartbeats 16000000 in
theorem aadd_any (m e n f m2 e2 n2 f2 k : Int) (vx vy : Value) (w : World) (hx : IsI w vx m e n f) (hy : IsI w vy m2 e2 n2 f2) (lm : zl m ≤ 25) (ln : zl n ≤ 25) (lm2 : zl m2 ≤ 25) (ln2 : zl n2 ≤ 25) (he : -3000 ≤ e ∧ e ≤ 3000) (hf : -3000 ≤ f ∧ f ≤ 3000) (he2 : -3000 ≤ e2 ∧ e2 ≤ 3000) (hf2 : -3000 ≤ f2 ∧ f2 ≤ 3000) (hd1 : dcm m e n f ≤ 0) (hd2 : dcm m2 e2 n2 f2 ≤ 0) (hk1 : -9223372036854775808 ≤ k) (hk2 : k ≤ 9223372036854775807) (hT : Tab w) :
    Calls Tryz.prog 24 #[vx, vy, .int .i64 k] w (RetEn w (dq m e + dq m2 e2) (dq n f + dq n2 f2) k) := by
  obtain ⟨A, c, B, d, rfl, hn1, hn2⟩ := hx.form
  obtain ⟨A2, k2, B2, d2, rfl, hn3, hn4⟩ := hy.form
  have L0 := ((((Lq.mk0 w).n hn4).n hn3).n hn2).n hn1
  have hen : ∀ args w, (callFunc 61 args).run Tryz.prog w = .ok (.enter 61 args) w := enters_of Tryz.func61 (by kernel_rfl) rfl
  have k0 := sum_ok lm lm2 he he2
  have k1 := sum_ok ln ln2 hf hf2
  have hmem : ∀ (P : Int × Int × Int × Int → Prop), P (m, e, m2, e2) → P (n, f, n2, f2) → ∀ p ∈ [(m, e, m2, e2), (n, f, n2, f2)], P p := fun P q0 q1 p hp => by
    simp only [List.mem_cons, List.not_mem_nil, or_false] at hp
    rcases hp with rfl | rfl <;> assumption
  have hop : ∀ p ∈ [(m, e, m2, e2), (n, f, n2, f2)], ∀ vx vy W, IsD W vx p.1 p.2.1 → IsD W vy p.2.2.1 p.2.2.2 → Below w.heap.size w W → Calls Tryz.prog 61 #[vx, vy] W (RetDE W (addR p).1 (addR p).2 0) := hmem _
    (fun vx vy W h1 h2 hW => by have := dadd_any m e m2 e2 vx vy W h1 h2 (by omega) (by omega) (by omega) (by omega) (hT.mono hW); rw [k0.1] at this; exact this)
    (fun vx vy W h1 h2 hW => by have := dadd_any n f n2 f2 vx vy W h1 h2 (by omega) (by omega) (by omega) (by omega) (hT.mono hW); rw [k1.1] at this; exact this)
  have hrb : ∀ p ∈ [(m, e, m2, e2), (n, f, n2, f2)], zl (addR p).1 ≤ 500 ∧ (-10000 ≤ (addR p).2 ∧ (addR p).2 ≤ 10000) := hmem _ ⟨k0.2.1, k0.2.2.1⟩ ⟨k1.2.1, k1.2.2.1⟩
  have hle1 := (dcm_le _ _ _ _).1 hd1
  have hle2 := (dcm_le _ _ _ _).1 hd2
  have hle := add_mono hle1 hle2
  have hlo : (∃ p ∈ [(m, e, m2, e2), (n, f, n2, f2)], dOf (addR p) = dq m e + dq m2 e2) ∧ ∀ p ∈ [(m, e, m2, e2), (n, f, n2, f2)], dq m e + dq m2 e2 ≤ dOf (addR p) := ⟨⟨(m, e, m2, e2), by simp, k0.2.2.2⟩, hmem _ (rle_of_eq k0.2.2.2.symm) (by rw [show dOf (addR (n, f, n2, f2)) = dq n f + dq n2 f2 from k1.2.2.2]; exact hle)⟩
  have hhi : (∃ p ∈ [(m, e, m2, e2), (n, f, n2, f2)], dOf (addR p) = dq n f + dq n2 f2) ∧ ∀ p ∈ [(m, e, m2, e2), (n, f, n2, f2)], dOf (addR p) ≤ dq n f + dq n2 f2 := ⟨⟨(n, f, n2, f2), by simp, k1.2.2.2⟩, hmem _ (by rw [show dOf (addR (m, e, m2, e2)) = dq m e + dq m2 e2 from k0.2.2.2]; exact hle) (rle_of_eq k1.2.2.2)⟩
  obtain ⟨lo, hlo9⟩ : ∃ x, dq m e + dq m2 e2 = x := ⟨_, rfl⟩
  obtain ⟨hi, hhi9⟩ : ∃ x, dq n f + dq n2 f2 = x := ⟨_, rfl⟩
  rw [hlo9] at hlo ⊢
  rw [hhi9] at hhi ⊢
  have HC := Lib.hid (fun vl W (h : RowI W vl [(m, e, m2, e2), (n, f, n2, f2)]) (hW : Below w.heap.size w W) => acomb_any 61 hen [(m, e, m2, e2), (n, f, n2, f2)] addR lo hi k vl W h (by simp) (by simp) (fun p hp vx vy W2 h1 h2 h3 => hop p hp vx vy W2 h1 h2 (hW.trans (h3.mono hW.size))) hrb hlo hhi hk1 hk2 (hT.mono hW))
  clear hen hop hrb hlo hhi hlo9 hhi9 hmem k0 k1 hx hy hn1 hn2 hn3 hn4 lm ln lm2 ln2 he hf he2 hf2 hd1 hd2 hk1 hk2 hT hle hle1 hle2
  go_enter Tryz.func24, Tryz.ntmps24
  go_wp2_with fail
  have L := (((L0.varI (w.heap.size) (by simp) (ng m) A (zl m) c e (ng n) B (zl n) d f).varI (w.heap.size + 1) (by simp) (ng m2) A2 (zl m2) k2 e2 (ng n2) B2 (zl n2) d2 f2).varI (w.heap.size + 2) (by simp) false none 0 0 0 false none 0 0 0)
  have c00 := L.b0.c60
  have c01 := L.b0.c61
  have c02 := L.b0.c62
  have c03 := L.b0.c63
  have c04 := L.b0.c64
  have c05 := L.b0.c65
  have c10 := L.tl.b0.c60
  have c11 := L.tl.b0.c61
  have c12 := L.tl.b0.c62
  have c13 := L.tl.b0.c63
  have c14 := L.tl.b0.c64
  have c15 := L.tl.b0.c65
  have c20 := L.tl.tl.b0.c60
  have c21 := L.tl.tl.b0.c61
  have c22 := L.tl.tl.b0.c62
  have c23 := L.tl.tl.b0.c63
  have c24 := L.tl.tl.b0.c64
  have c25 := L.tl.tl.b0.c65
  go_wp2_with fail
  clear c00 c01 c02 c03 c04 c05 c10 c11 c12 c13 c14 c15 c20 c21 c22 c23 c24 c25
  replace L := L.var (w.heap.size + 3) (by simp) 99 #[.bool (ng m), .slice A (zl m) c, .int .i64 e, .bool (ng m2), .slice A2 (zl m2) k2, .int .i64 e2, .bool (ng n), .slice B (zl n) d, .int .i64 f, .bool (ng n2), .slice B2 (zl n2) d2, .int .i64 f2] (plainI_2 _ _ _ _ _ _ _ _ _ _ _ _ _ _ _ _)
  obtain ⟨gl, hgl⟩ : ∃ gl, w.heap.size + 1 + 1 + 1 = gl := ⟨_, rfl⟩
  have hgl2 : w.heap.size + 3 = gl := hgl
  obtain ⟨gr, hgr⟩ : ∃ gr, w.heap.size + 1 + 1 = gr := ⟨_, rfl⟩
  have hgr2 : w.heap.size + 2 = gr := hgr
  rw [hgl2, hgr2] at L
  rw [hgl, hgr]
  have hgl3 : w.heap.size + 2 < gl := by omega
  have hgr3 : w.heap.size + 1 < gr := by omega
  have hgl4 : gr < gl := by omega
  clear hgl hgl2 hgr hgr2
  refine (HC.out _ _ (rowI_2 L.b0 (L.getN (v := .slice A (zl m) c) (x := (m).natAbs) (by simp)) (L.getN (v := .slice A2 (zl m2) k2) (x := (m2).natAbs) (by simp)) (L.getN (v := .slice B (zl n) d) (x := (n).natAbs) (by simp)) (L.getN (v := .slice B2 (zl n2) d2) (x := (n2).natAbs) (by simp))) L.below).mono ?_
  intro e9 w19 hen
  obtain ⟨v19, er, m9, e9', n9, f9, rfl, ii, be, hback⟩ := hen.form
  obtain ⟨A5, c5, B5, d5, rfl, ia, ib⟩ := ii.form
  replace L := (((L.step be).n ib).n ia).swap
  clear be ii ia ib hen
  have HBK := Lib.hid hback
  clear hback
  have c00 := L.b0.c60
  have f00 := L.b0.fr 0
  have c01 := L.b0.c61
  have f01 := L.b0.fr 1
  have c02 := L.b0.c62
  have f02 := L.b0.fr 2
  have c03 := L.b0.c63
  have f03 := L.b0.fr 3
  have c04 := L.b0.c64
  have f04 := L.b0.fr 4
  have c05 := L.b0.c65
  have f05 := L.b0.fr 5
  go_wp2_with fail
  have LP := L.putI (by omega) (by first | (simp; done) | (simp; omega)) (ng m9) A5 (zl m9) c5 e9' (ng n9) B5 (zl n9) d5 f9
  have k0' := LP.b0.c60
  have k1' := LP.b0.c61
  have k2' := LP.b0.c62
  have k3' := LP.b0.c63
  have k4' := LP.b0.c64
  have k5' := LP.b0.c65
  unfold put6 at k0' k1' k2' k3' k4' k5'
  exact bodyPost_ret (v := .tuple #[.agg #[.bool (ng m9), .slice A5 (zl m9) c5, .int .i64 e9', .bool (ng n9), .slice B5 (zl n9) d5, .int .i64 f9], .int .i64 er]) (by simp [results, Tryz.results24, go_sem, k0', k1', k2', k3', k4', k5']) rfl (HBK.out _ _ _ (isI_n (LP.getN (by simp)) (LP.getN (by simp))) LP.below)
set_option maxHeartbeats 16000000 in
theorem amul_any (m e n f m2 e2 n2 f2 k : Int) (vx vy : Value) (w : World) (hx : IsI w vx m e n f) (hy : IsI w vy m2 e2 n2 f2) (lm : zl m ≤ 25) (ln : zl n ≤ 25) (lm2 : zl m2 ≤ 25) (ln2 : zl n2 ≤ 25) (he : -3000 ≤ e ∧ e ≤ 3000) (hf : -3000 ≤ f ∧ f ≤ 3000) (he2 : -3000 ≤ e2 ∧ e2 ≤ 3000) (hf2 : -3000 ≤ f2 ∧ f2 ≤ 3000) (hd1 : dcm m e n f ≤ 0) (hd2 : dcm m2 e2 n2 f2 ≤ 0) (hk1 : -9223372036854775808 ≤ k) (hk2 : k ≤ 9223372036854775807) (hT : Tab w) :
    Calls Tryz.prog 26 #[vx, vy, .int .i64 k] w (RetEn w (min4 (dq m e * dq m2 e2) (dq m e * dq n2 f2) (dq n f * dq m2 e2) (dq n f * dq n2 f2)) (max4 (dq m e * dq m2 e2) (dq m e * dq n2 f2) (dq n f * dq m2 e2) (dq n f * dq n2 f2)) k) := by
  obtain ⟨A, c, B, d, rfl, hn1, hn2⟩ := hx.form
  obtain ⟨A2, k2, B2, d2, rfl, hn3, hn4⟩ := hy.form
  have L0 := ((((Lq.mk0 w).n hn4).n hn3).n hn2).n hn1
  have hen : ∀ args w, (callFunc 81 args).run Tryz.prog w = .ok (.enter 81 args) w := enters_of Tryz.func81 (by kernel_rfl) rfl
  have k0 := prod_ok lm lm2 he he2
  have k1 := prod_ok lm ln2 he hf2
  have k2 := prod_ok ln lm2 hf he2
  have k3 := prod_ok ln ln2 hf hf2
  have hmem : ∀ (P : Int × Int × Int × Int → Prop), P (m, e, m2, e2) → P (m, e, n2, f2) → P (n, f, m2, e2) → P (n, f, n2, f2) → ∀ p ∈ [(m, e, m2, e2), (m, e, n2, f2), (n, f, m2, e2), (n, f, n2, f2)], P p := fun P q0 q1 q2 q3 p hp => by
    simp only [List.mem_cons, List.not_mem_nil, or_false] at hp
    rcases hp with rfl | rfl | rfl | rfl <;> assumption
  have hop : ∀ p ∈ [(m, e, m2, e2), (m, e, n2, f2), (n, f, m2, e2), (n, f, n2, f2)], ∀ vx vy W, IsD W vx p.1 p.2.1 → IsD W vy p.2.2.1 p.2.2.2 → Below w.heap.size w W → Calls Tryz.prog 81 #[vx, vy] W (RetDE W (mulR p).1 (mulR p).2 0) := hmem _
    (fun vx vy W h1 h2 hW => by have := dmul_any m e m2 e2 vx vy W h1 h2 (by omega) (by omega) (by omega) (by omega) (hT.mono hW); rw [k0.1] at this; exact this)
    (fun vx vy W h1 h2 hW => by have := dmul_any m e n2 f2 vx vy W h1 h2 (by omega) (by omega) (by omega) (by omega) (hT.mono hW); rw [k1.1] at this; exact this)
    (fun vx vy W h1 h2 hW => by have := dmul_any n f m2 e2 vx vy W h1 h2 (by omega) (by omega) (by omega) (by omega) (hT.mono hW); rw [k2.1] at this; exact this)
    (fun vx vy W h1 h2 hW => by have := dmul_any n f n2 f2 vx vy W h1 h2 (by omega) (by omega) (by omega) (by omega) (hT.mono hW); rw [k3.1] at this; exact this)
  have hrb : ∀ p ∈ [(m, e, m2, e2), (m, e, n2, f2), (n, f, m2, e2), (n, f, n2, f2)], zl (mulR p).1 ≤ 500 ∧ (-10000 ≤ (mulR p).2 ∧ (mulR p).2 ≤ 10000) := hmem _ ⟨k0.2.1, k0.2.2.1⟩ ⟨k1.2.1, k1.2.2.1⟩ ⟨k2.2.1, k2.2.2.1⟩ ⟨k3.2.1, k3.2.2.1⟩
  have j0 : dOf (mulR (m, e, m2, e2)) = dq m e * dq m2 e2 := k0.2.2.2
  have j1 : dOf (mulR (m, e, n2, f2)) = dq m e * dq n2 f2 := k1.2.2.2
  have j2 : dOf (mulR (n, f, m2, e2)) = dq n f * dq m2 e2 := k2.2.2.2
  have j3 : dOf (mulR (n, f, n2, f2)) = dq n f * dq n2 f2 := k3.2.2.2
  obtain ⟨a1, a2, a3, a4⟩ := min4_le (dq m e * dq m2 e2) (dq m e * dq n2 f2) (dq n f * dq m2 e2) (dq n f * dq n2 f2)
  obtain ⟨b1, b2, b3, b4⟩ := le_max4 (dq m e * dq m2 e2) (dq m e * dq n2 f2) (dq n f * dq m2 e2) (dq n f * dq n2 f2)
  have hlo : (∃ p ∈ [(m, e, m2, e2), (m, e, n2, f2), (n, f, m2, e2), (n, f, n2, f2)], dOf (mulR p) = min4 (dq m e * dq m2 e2) (dq m e * dq n2 f2) (dq n f * dq m2 e2) (dq n f * dq n2 f2)) ∧ ∀ p ∈ [(m, e, m2, e2), (m, e, n2, f2), (n, f, m2, e2), (n, f, n2, f2)], min4 (dq m e * dq m2 e2) (dq m e * dq n2 f2) (dq n f * dq m2 e2) (dq n f * dq n2 f2) ≤ dOf (mulR p) := by
    refine ⟨?_, hmem _ (by rw [j0]; exact a1) (by rw [j1]; exact a2) (by rw [j2]; exact a3) (by rw [j3]; exact a4)⟩
    rcases min4_or (dq m e * dq m2 e2) (dq m e * dq n2 f2) (dq n f * dq m2 e2) (dq n f * dq n2 f2) with h | h | h | h <;> rw [h]
    · exact ⟨(m, e, m2, e2), by simp, j0⟩
    · exact ⟨(m, e, n2, f2), by simp, j1⟩
    · exact ⟨(n, f, m2, e2), by simp, j2⟩
    · exact ⟨(n, f, n2, f2), by simp, j3⟩
  have hhi : (∃ p ∈ [(m, e, m2, e2), (m, e, n2, f2), (n, f, m2, e2), (n, f, n2, f2)], dOf (mulR p) = max4 (dq m e * dq m2 e2) (dq m e * dq n2 f2) (dq n f * dq m2 e2) (dq n f * dq n2 f2)) ∧ ∀ p ∈ [(m, e, m2, e2), (m, e, n2, f2), (n, f, m2, e2), (n, f, n2, f2)], dOf (mulR p) ≤ max4 (dq m e * dq m2 e2) (dq m e * dq n2 f2) (dq n f * dq m2 e2) (dq n f * dq n2 f2) := by
    refine ⟨?_, hmem _ (by rw [j0]; exact b1) (by rw [j1]; exact b2) (by rw [j2]; exact b3) (by rw [j3]; exact b4)⟩
    rcases max4_or (dq m e * dq m2 e2) (dq m e * dq n2 f2) (dq n f * dq m2 e2) (dq n f * dq n2 f2) with h | h | h | h <;> rw [h]
    · exact ⟨(m, e, m2, e2), by simp, j0⟩
    · exact ⟨(m, e, n2, f2), by simp, j1⟩
    · exact ⟨(n, f, m2, e2), by simp, j2⟩
    · exact ⟨(n, f, n2, f2), by simp, j3⟩
  obtain ⟨lo, hlo9⟩ : ∃ x, min4 (dq m e * dq m2 e2) (dq m e * dq n2 f2) (dq n f * dq m2 e2) (dq n f * dq n2 f2) = x := ⟨_, rfl⟩
  obtain ⟨hi, hhi9⟩ : ∃ x, max4 (dq m e * dq m2 e2) (dq m e * dq n2 f2) (dq n f * dq m2 e2) (dq n f * dq n2 f2) = x := ⟨_, rfl⟩
  rw [hlo9] at hlo ⊢
  rw [hhi9] at hhi ⊢
  have HC := Lib.hid (fun vl W (h : RowI W vl [(m, e, m2, e2), (m, e, n2, f2), (n, f, m2, e2), (n, f, n2, f2)]) (hW : Below w.heap.size w W) => acomb_any 81 hen [(m, e, m2, e2), (m, e, n2, f2), (n, f, m2, e2), (n, f, n2, f2)] mulR lo hi k vl W h (by simp) (by simp) (fun p hp vx vy W2 h1 h2 h3 => hop p hp vx vy W2 h1 h2 (hW.trans (h3.mono hW.size))) hrb hlo hhi hk1 hk2 (hT.mono hW))
  clear hen hop hrb hlo hhi hlo9 hhi9 hmem k0 k1 k2 k3 hx hy hn1 hn2 hn3 hn4 lm ln lm2 ln2 he hf he2 hf2 hd1 hd2 hk1 hk2 hT j0 j1 j2 j3 a1 a2 a3 a4 b1 b2 b3 b4
  go_enter Tryz.func26, Tryz.ntmps26
  go_wp2_with fail
  have L := (((L0.varI (w.heap.size) (by simp) (ng m) A (zl m) c e (ng n) B (zl n) d f).varI (w.heap.size + 1) (by simp) (ng m2) A2 (zl m2) k2 e2 (ng n2) B2 (zl n2) d2 f2).varI (w.heap.size + 2) (by simp) false none 0 0 0 false none 0 0 0)
  have c00 := L.b0.c60
  have c01 := L.b0.c61
  have c02 := L.b0.c62
  have c03 := L.b0.c63
  have c04 := L.b0.c64
  have c05 := L.b0.c65
  have c10 := L.tl.b0.c60
  have c11 := L.tl.b0.c61
  have c12 := L.tl.b0.c62
  have c13 := L.tl.b0.c63
  have c14 := L.tl.b0.c64
  have c15 := L.tl.b0.c65
  have c20 := L.tl.tl.b0.c60
  have c21 := L.tl.tl.b0.c61
  have c22 := L.tl.tl.b0.c62
  have c23 := L.tl.tl.b0.c63
  have c24 := L.tl.tl.b0.c64
  have c25 := L.tl.tl.b0.c65
  go_wp2_with fail
  clear c00 c01 c02 c03 c04 c05 c10 c11 c12 c13 c14 c15 c20 c21 c22 c23 c24 c25
  replace L := L.var (w.heap.size + 3) (by simp) 99 #[.bool (ng m), .slice A (zl m) c, .int .i64 e, .bool (ng m2), .slice A2 (zl m2) k2, .int .i64 e2, .bool (ng m), .slice A (zl m) c, .int .i64 e, .bool (ng n2), .slice B2 (zl n2) d2, .int .i64 f2, .bool (ng n), .slice B (zl n) d, .int .i64 f, .bool (ng m2), .slice A2 (zl m2) k2, .int .i64 e2, .bool (ng n), .slice B (zl n) d, .int .i64 f, .bool (ng n2), .slice B2 (zl n2) d2, .int .i64 f2] (plainI_4 _ _ _ _ _ _ _ _ _ _ _ _ _ _ _ _ _ _ _ _ _ _ _ _ _ _ _ _ _ _ _ _)
  obtain ⟨gl, hgl⟩ : ∃ gl, w.heap.size + 1 + 1 + 1 = gl := ⟨_, rfl⟩
  have hgl2 : w.heap.size + 3 = gl := hgl
  obtain ⟨gr, hgr⟩ : ∃ gr, w.heap.size + 1 + 1 = gr := ⟨_, rfl⟩
  have hgr2 : w.heap.size + 2 = gr := hgr
  rw [hgl2, hgr2] at L
  rw [hgl, hgr]
  have hgl3 : w.heap.size + 2 < gl := by omega
  have hgr3 : w.heap.size + 1 < gr := by omega
  have hgl4 : gr < gl := by omega
  clear hgl hgl2 hgr hgr2
  refine (HC.out _ _ (rowI_4 L.b0 (L.getN (v := .slice A (zl m) c) (x := (m).natAbs) (by simp)) (L.getN (v := .slice A2 (zl m2) k2) (x := (m2).natAbs) (by simp)) (L.getN (v := .slice A (zl m) c) (x := (m).natAbs) (by simp)) (L.getN (v := .slice B2 (zl n2) d2) (x := (n2).natAbs) (by simp)) (L.getN (v := .slice B (zl n) d) (x := (n).natAbs) (by simp)) (L.getN (v := .slice A2 (zl m2) k2) (x := (m2).natAbs) (by simp)) (L.getN (v := .slice B (zl n) d) (x := (n).natAbs) (by simp)) (L.getN (v := .slice B2 (zl n2) d2) (x := (n2).natAbs) (by simp))) L.below).mono ?_
  intro e9 w19 hen
  obtain ⟨v19, er, m9, e9', n9, f9, rfl, ii, be, hback⟩ := hen.form
  obtain ⟨A5, c5, B5, d5, rfl, ia, ib⟩ := ii.form
  replace L := (((L.step be).n ib).n ia).swap
  clear be ii ia ib hen
  have HBK := Lib.hid hback
  clear hback
  have c00 := L.b0.c60
  have f00 := L.b0.fr 0
  have c01 := L.b0.c61
  have f01 := L.b0.fr 1
  have c02 := L.b0.c62
  have f02 := L.b0.fr 2
  have c03 := L.b0.c63
  have f03 := L.b0.fr 3
  have c04 := L.b0.c64
  have f04 := L.b0.fr 4
  have c05 := L.b0.c65
  have f05 := L.b0.fr 5
  go_wp2_with fail
  have LP := L.putI (by omega) (by first | (simp; done) | (simp; omega)) (ng m9) A5 (zl m9) c5 e9' (ng n9) B5 (zl n9) d5 f9
  have k0' := LP.b0.c60
  have k1' := LP.b0.c61
  have k2' := LP.b0.c62
  have k3' := LP.b0.c63
  have k4' := LP.b0.c64
  have k5' := LP.b0.c65
  unfold put6 at k0' k1' k2' k3' k4' k5'
  exact bodyPost_ret (v := .tuple #[.agg #[.bool (ng m9), .slice A5 (zl m9) c5, .int .i64 e9', .bool (ng n9), .slice B5 (zl n9) d5, .int .i64 f9], .int .i64 er]) (by simp [results, Tryz.results26, go_sem, k0', k1', k2', k3', k4', k5']) rfl (HBK.out _ _ _ (isI_n (LP.getN (by simp)) (LP.getN (by simp))) LP.below)
set_option maxHeartbeats 16000000 in
theorem asub_any (m e n f m2 e2 n2 f2 k : Int) (vx vy : Value) (w : World) (hx : IsI w vx m e n f) (hy : IsI w vy m2 e2 n2 f2) (lm : zl m ≤ 25) (ln : zl n ≤ 25) (lm2 : zl m2 ≤ 25) (ln2 : zl n2 ≤ 25) (he : -3000 ≤ e ∧ e ≤ 3000) (hf : -3000 ≤ f ∧ f ≤ 3000) (he2 : -3000 ≤ e2 ∧ e2 ≤ 3000) (hf2 : -3000 ≤ f2 ∧ f2 ≤ 3000) (hd1 : dcm m e n f ≤ 0) (hd2 : dcm m2 e2 n2 f2 ≤ 0) (hk1 : -9223372036854775808 ≤ k) (hk2 : k ≤ 9223372036854775807) (hT : Tab w) :
    Calls Tryz.prog 80 #[vx, vy, .int .i64 k] w (RetEn w (dq m e - dq n2 f2) (dq n f - dq m2 e2) k) := by
  obtain ⟨A, c, B, d, rfl, hn1, hn2⟩ := hx.form
  obtain ⟨A2, k2, B2, d2, rfl, hn3, hn4⟩ := hy.form
  have L0 := ((((Lq.mk0 w).n hn4).n hn3).n hn2).n hn1
  have z1 := zl_neg m2
  have z2 := zl_neg n2
  have HO0 := fun v W h => aopp_any m2 e2 n2 f2 v W h (by omega) (by omega) (by omega) (by omega)
  have hd3 : dcm (-n2) f2 (-m2) e2 ≤ 0 := by
    rw [dcm_le, dq_neg, dq_neg]
    exact Rat.neg_le_neg ((dcm_le _ _ _ _).1 hd2)
  have ha := fun v u W h1 h2 (hW : Below w.heap.size w W) => aadd_any m e n f (-n2) f2 (-m2) e2 k v u W h1 h2 lm ln (by omega) (by omega) he hf hf2 he2 hd1 hd3 hk1 hk2 (hT.mono hW)
  rw [dq_neg, dq_neg, ← Rat.sub_eq_add_neg, ← Rat.sub_eq_add_neg] at ha
  obtain ⟨nn, hnn⟩ : ∃ x, -n2 = x := ⟨_, rfl⟩
  obtain ⟨nm, hnm⟩ : ∃ x, -m2 = x := ⟨_, rfl⟩
  rw [hnn, hnm] at HO0 ha
  generalize dq m e - dq n2 f2 = lo at *
  generalize dq n f - dq m2 e2 = hi at *
  have HO := Lib.hid HO0
  have HA := Lib.hid ha
  clear HO0 ha hnn hnm z1 z2 hd3 hx hy hn1 hn2 hn3 hn4 lm ln lm2 ln2 he hf he2 hf2 hd1 hd2 hk1 hk2 hT
  go_enter Tryz.func80, Tryz.ntmps80
  go_wp2_with fail
  have L := (((L0.varI (w.heap.size) (by simp) (ng m) A (zl m) c e (ng n) B (zl n) d f).varI (w.heap.size + 1) (by simp) (ng m2) A2 (zl m2) k2 e2 (ng n2) B2 (zl n2) d2 f2).varI (w.heap.size + 2) (by simp) false none 0 0 0 false none 0 0 0)
  replace L := L.drew
  have c00 := L.b0.c60
  have f00 := L.b0.fr 0
  have c01 := L.b0.c61
  have f01 := L.b0.fr 1
  have c02 := L.b0.c62
  have f02 := L.b0.fr 2
  have c03 := L.b0.c63
  have f03 := L.b0.fr 3
  have c04 := L.b0.c64
  have f04 := L.b0.fr 4
  have c05 := L.b0.c65
  have f05 := L.b0.fr 5
  have c10 := L.tl.b0.c60
  have c11 := L.tl.b0.c61
  have c12 := L.tl.b0.c62
  have c13 := L.tl.b0.c63
  have c14 := L.tl.b0.c64
  have c15 := L.tl.b0.c65
  have c20 := L.tl.tl.b0.c60
  have c21 := L.tl.tl.b0.c61
  have c22 := L.tl.tl.b0.c62
  have c23 := L.tl.tl.b0.c63
  have c24 := L.tl.tl.b0.c64
  have c25 := L.tl.tl.b0.c65
  go_region_held3 (fun w' => w'.cell? ⟨w.heap.size, 0, none⟩ = some (.bool (ng m)) ∧ w'.cell? ⟨w.heap.size, 1, none⟩ = some (.slice A (zl m) c) ∧ w'.cell? ⟨w.heap.size, 2, none⟩ = some (.int .i64 e) ∧ w'.cell? ⟨w.heap.size, 3, none⟩ = some (.bool (ng n)) ∧ w'.cell? ⟨w.heap.size, 4, none⟩ = some (.slice B (zl n) d) ∧ w'.cell? ⟨w.heap.size, 5, none⟩ = some (.int .i64 f) ∧ w'.cell? ⟨w.heap.size + 1, 0, none⟩ = some (.bool (ng m2)) ∧ w'.cell? ⟨w.heap.size + 1, 1, none⟩ = some (.slice A2 (zl m2) k2) ∧ w'.cell? ⟨w.heap.size + 1, 2, none⟩ = some (.int .i64 e2) ∧ w'.cell? ⟨w.heap.size + 1, 3, none⟩ = some (.bool (ng n2)) ∧ w'.cell? ⟨w.heap.size + 1, 4, none⟩ = some (.slice B2 (zl n2) d2) ∧ w'.cell? ⟨w.heap.size + 1, 5, none⟩ = some (.int .i64 f2)) (first | (with_reducible exact ⟨L.tl.tl.b0.c60, L.tl.tl.b0.c61, L.tl.tl.b0.c62, L.tl.tl.b0.c63, L.tl.tl.b0.c64, L.tl.tl.b0.c65, L.tl.b0.c60, L.tl.b0.c61, L.tl.b0.c62, L.tl.b0.c63, L.tl.b0.c64, L.tl.b0.c65⟩) | (have LP := L.putI (by omega) (by first | (simp; done) | (simp; omega)) (ng m9) A5 (zl m9) c5 (e9') (ng n9) B5 (zl n9) d5 (f9); unfold put6 at LP; with_reducible exact ⟨LP.tl.tl.b0.c60, LP.tl.tl.b0.c61, LP.tl.tl.b0.c62, LP.tl.tl.b0.c63, LP.tl.tl.b0.c64, LP.tl.tl.b0.c65, LP.tl.b0.c60, LP.tl.b0.c61, LP.tl.b0.c62, LP.tl.b0.c63, LP.tl.b0.c64, LP.tl.b0.c65⟩) | exact ⟨L.tl.tl.b0.c60, L.tl.tl.b0.c61, L.tl.tl.b0.c62, L.tl.tl.b0.c63, L.tl.tl.b0.c64, L.tl.tl.b0.c65, L.tl.b0.c60, L.tl.b0.c61, L.tl.b0.c62, L.tl.b0.c63, L.tl.b0.c64, L.tl.b0.c65⟩) (first | (go_at_call 136; (with_reducible refine (HO.out _ _ ?_ ).mono ?_); (· (refine isI_n (L.getN ?_) (L.getN ?_) <;> (repeat (first | (with_reducible exact List.mem_cons_self) | apply List.mem_cons_of_mem)))); rintro e wh ⟨vh, rfl, ii, be⟩; obtain ⟨A8, c8, B8, d8, rfl, ia, ib⟩ := ii.form; replace L := ((L.step be).n ib).n ia; clear be ii ia ib; (try (have x00 := L.b0.c60; have y00 := L.b0.fr 0; have x01 := L.b0.c61; have y01 := L.b0.fr 1; have x02 := L.b0.c62; have y02 := L.b0.fr 2; have x03 := L.b0.c63; have y03 := L.b0.fr 3; have x04 := L.b0.c64; have y04 := L.b0.fr 4; have x05 := L.b0.c65; have y05 := L.b0.fr 5))) | (go_at_call 24; (with_reducible refine (HA.out _ _ _ ?_ ?_ ?_ ).mono ?_); (· (refine isI_n (L.getN ?_) (L.getN ?_) <;> (repeat (first | (with_reducible exact List.mem_cons_self) | apply List.mem_cons_of_mem)))); (· (refine isI_n (L.getN ?_) (L.getN ?_) <;> (repeat (first | (with_reducible exact List.mem_cons_self) | apply List.mem_cons_of_mem)))); (· exact L.below); rintro e wh hen; obtain ⟨vh, er, m9, e9', n9, f9, rfl, ii, be, hback⟩ := hen.form; obtain ⟨A5, c5, B5, d5, rfl, ia, ib⟩ := ii.form; replace L := ((L.step be).n ib).n ia; have HBK := Lib.hid hback; clear be ii ia ib hen hback; (try (have x00 := L.b0.c60; have y00 := L.b0.fr 0; have x01 := L.b0.c61; have y01 := L.b0.fr 1; have x02 := L.b0.c62; have y02 := L.b0.fr 2; have x03 := L.b0.c63; have y03 := L.b0.fr 3; have x04 := L.b0.c64; have y04 := L.b0.fr 4; have x05 := L.b0.c65; have y05 := L.b0.fr 5))))
  clear c00 f00 c01 f01 c02 f02 c03 f03 c04 f04 c05 f05 c10 c11 c12 c13 c14 c15 c20 c21 c22 c23 c24 c25
  go_wp2_with fail
  have LP := L.putI (by omega) (by first | (simp; done) | (simp; omega)) (ng m9) A5 (zl m9) c5 e9' (ng n9) B5 (zl n9) d5 f9
  have k0 := LP.b0.c60
  have k1 := LP.b0.c61
  have k2 := LP.b0.c62
  have k3 := LP.b0.c63
  have k4 := LP.b0.c64
  have k5 := LP.b0.c65
  unfold put6 at k0 k1 k2 k3 k4 k5
  exact bodyPost_ret (v := .tuple #[.agg #[.bool (ng m9), .slice A5 (zl m9) c5, .int .i64 e9', .bool (ng n9), .slice B5 (zl n9) d5, .int .i64 f9], .int .i64 er]) (by simp [results, Tryz.results80, go_sem, k0, k1, k2, k3, k4, k5]) rfl (HBK.out _ _ _ (isI_n (LP.getN (by simp)) (LP.getN (by simp))) LP.below)
set_option maxHeartbeats 8000000 in
theorem aneg_any (m e n f k : Int) (vx : Value) (w : World) (hx : IsI w vx m e n f) (lm : zl m ≤ 25) (ln : zl n ≤ 25) (he : -3000 ≤ e ∧ e ≤ 3000) (hf : -3000 ≤ f ∧ f ≤ 3000) (hd1 : dcm m e n f ≤ 0) (hk1 : -9223372036854775808 ≤ k) (hk2 : k ≤ 9223372036854775807) (hT : Tab w) :
    Calls Tryz.prog 25 #[vx, .int .i64 k] w (RetEn w (-(dq n f)) (-(dq m e)) k) := by
  obtain ⟨A, c, B, d, rfl, hn1, hn2⟩ := hx.form
  have L0 := ((Lq.mk0 w).n hn2).n hn1
  have z0 : zl 0 ≤ 25 := by rw [zl_zero]; omega
  have ha := fun v u W h1 h2 (hW : Below w.heap.size w W) => asub_any 0 0 0 0 m e n f k v u W h1 h2 z0 z0 lm ln (by omega) (by omega) he hf (by rw [dcm_self]; omega) hd1 hk1 hk2 (hT.mono hW)
  rw [dq00, Rat.sub_eq_add_neg, Rat.sub_eq_add_neg, Rat.zero_add, Rat.zero_add] at ha
  generalize -(dq n f) = lo at *
  generalize -(dq m e) = hi at *
  have HA := Lib.hid ha
  clear ha z0 hx hn1 hn2 lm ln he hf hd1 hk1 hk2 hT
  go_enter Tryz.func25, Tryz.ntmps25
  go_wp2_with fail
  have L := ((L0.varI (w.heap.size) (by simp) (ng m) A (zl m) c e (ng n) B (zl n) d f).varI (w.heap.size + 1) (by simp) false none 0 0 0 false none 0 0 0)
  have c00 := L.b0.c60
  have f00 := L.b0.fr 0
  have c01 := L.b0.c61
  have f01 := L.b0.fr 1
  have c02 := L.b0.c62
  have f02 := L.b0.fr 2
  have c03 := L.b0.c63
  have f03 := L.b0.fr 3
  have c04 := L.b0.c64
  have f04 := L.b0.fr 4
  have c05 := L.b0.c65
  have f05 := L.b0.fr 5
  have c10 := L.tl.b0.c60
  have c11 := L.tl.b0.c61
  have c12 := L.tl.b0.c62
  have c13 := L.tl.b0.c63
  have c14 := L.tl.b0.c64
  have c15 := L.tl.b0.c65
  go_wp2_with fail
  refine (HA.out _ _ _ (isI_zero _) (isI_n (m := m) (e := e) (n := n) (f := f) (L.getN (v := .slice A (zl m) c) (x := (m).natAbs) (by simp)) (L.getN (v := .slice B (zl n) d) (x := (n).natAbs) (by simp))) L.below).mono ?_
  intro e9 w19 hen
  obtain ⟨v19, er, m9, e9', n9, f9, rfl, ii, be, hback⟩ := hen.form
  obtain ⟨A5, c5, B5, d5, rfl, ia, ib⟩ := ii.form
  replace L := (((L.step be).n ib).n ia)
  clear be ii ia ib hen
  have HBK := Lib.hid hback
  clear hback
  clear c00 f00 c01 f01 c02 f02 c03 f03 c04 f04 c05 f05 c10 c11 c12 c13 c14 c15
  have c00 := L.b0.c60
  have f00 := L.b0.fr 0
  have c01 := L.b0.c61
  have f01 := L.b0.fr 1
  have c02 := L.b0.c62
  have f02 := L.b0.fr 2
  have c03 := L.b0.c63
  have f03 := L.b0.fr 3
  have c04 := L.b0.c64
  have f04 := L.b0.fr 4
  have c05 := L.b0.c65
  have f05 := L.b0.fr 5
  go_wp2_with fail
  have LP := L.putI (by omega) (by first | (simp; done) | (simp; omega)) (ng m9) A5 (zl m9) c5 e9' (ng n9) B5 (zl n9) d5 f9
  have k0' := LP.b0.c60
  have k1' := LP.b0.c61
  have k2' := LP.b0.c62
  have k3' := LP.b0.c63
  have k4' := LP.b0.c64
  have k5' := LP.b0.c65
  unfold put6 at k0' k1' k2' k3' k4' k5'
  exact bodyPost_ret (v := .tuple #[.agg #[.bool (ng m9), .slice A5 (zl m9) c5, .int .i64 e9', .bool (ng n9), .slice B5 (zl n9) d5, .int .i64 f9], .int .i64 er]) (by simp [results, Tryz.results25, go_sem, k0', k1', k2', k3', k4', k5']) rfl (HBK.out _ _ _ (isI_n (LP.getN (by simp)) (LP.getN (by simp))) LP.below)

/-- The quotient of two dyadics as a pair. -/
def qtA (m e n f : Int) : Int := if m = 0 then 0 else (Rat.divInt m n).num * 2 ^ (e - f).toNat
def qtD (m e n f : Int) : Nat := if m = 0 then 1 else (Rat.divInt m n).den * 2 ^ (f - e).toNat
theorem qt_pos (m e n f : Int) : 0 < qtD m e n f := by
  unfold qtD
  split
  · omega
  · exact Nat.mul_pos (Rat.den_pos _) (Nat.pow_pos (by omega))
theorem dq_pow (m e : Int) : dq m e = (m : Rat) * dq 1 e := dq_scale m e
theorem dq_one_sub (e f : Int) : dq 1 (e - f) * dq 1 f = dq 1 e := by
  rw [← dq_mul, Int.mul_one]
  congr 1
  omega
theorem divInt_mul_r (a : Int) (d : Nat) (x y : Nat) (hx : 0 < x) (hy : 0 < y) (hd : 0 < d) : Rat.divInt (a * (x : Int)) ((d * y : Nat) : Int) = Rat.divInt a (d : Int) * Rat.divInt (x : Int) (y : Int) := by
  rw [Rat.divInt_mul_divInt]
  congr 1
theorem qt_val {m e n f : Int} (hn : n ≠ 0) : Rat.divInt (qtA m e n f) (qtD m e n f : Int) = dq m e / dq n f := by
  have hn0 : (n : Rat) ≠ 0 := fun h => hn (Rat.intCast_eq_zero_iff.1 h)
  have hp := dq_pos f
  have hpn : dq 1 f ≠ 0 := fun h => by rw [h] at hp; exact Rat.not_le.2 hp Rat.le_refl
  by_cases h0 : m = 0
  · unfold qtA qtD
    rw [if_pos h0, if_pos h0, h0, dq_pow 0 e, Rat.intCast_zero, Rat.zero_mul, Rat.div_def, Rat.zero_mul]
    rfl
  · unfold qtA qtD
    rw [if_neg h0, if_neg h0]
    have e1 : (2 : Int) ^ (e - f).toNat = ((2 ^ (e - f).toNat : Nat) : Int) := (cast2 _).symm
    rw [e1, divInt_mul_r _ _ _ _ (Nat.pow_pos (by omega)) (Nat.pow_pos (by omega)) (Rat.den_pos _), Rat.num_divInt_den]
    have e2 : Rat.divInt ((2 ^ (e - f).toNat : Nat) : Int) ((2 ^ (f - e).toNat : Nat) : Int) = dq 1 (e - f) := by
      unfold dq
      rw [Int.one_mul, cast2, show -(e - f) = f - e from by omega]
    rw [e2, dq_pow m e, dq_pow n f, ← dq_one_sub e f, Rat.div_def, Rat.inv_mul_rev]
    have e3 : Rat.divInt m n = (m : Rat) * (n : Rat)⁻¹ := by rw [← Rat.div_def]; exact Rat.divInt_eq_div m n
    rw [e3]
    have e4 : dq 1 f * (dq 1 f)⁻¹ = 1 := Rat.mul_inv_cancel _ hpn
    rw [show (m : Rat) * (dq 1 (e - f) * dq 1 f) * ((dq 1 f)⁻¹ * (n : Rat)⁻¹) = (m : Rat) * (dq 1 (e - f) * (dq 1 f * (dq 1 f)⁻¹) * (n : Rat)⁻¹) from by simp only [Rat.mul_assoc], e4, Rat.mul_one, Rat.mul_assoc, Rat.mul_comm (n : Rat)⁻¹]
theorem qt_low {m n : Int} (hn : n ≠ 0) : zl (Rat.divInt m n).num ≤ zl m ∧ len (Rat.divInt m n).den ≤ zl n := by
  obtain ⟨e1, e2⟩ := divInt_pair m n hn
  constructor
  · unfold zl
    rw [e1]
    exact len_mono (by rw [sg_abs]; exact Nat.div_le_self _ _)
  · unfold zl
    rw [e2]
    exact len_mono (Nat.div_le_self _ _)
theorem qt_small {m e n f : Int} (hn : n ≠ 0) (lm : zl m ≤ 25) (ln : zl n ≤ 25) (he : -3000 ≤ e ∧ e ≤ 3000) (hf : -3000 ≤ f ∧ f ≤ 3000) : zl (qtA m e n f) ≤ 800 ∧ len (qtD m e n f) ≤ 800 := by
  obtain ⟨h1, h2⟩ := qt_low (m := m) hn
  unfold qtA qtD
  constructor
  · split
    · rw [zl_zero]; omega
    · have := zl_two (Rat.divInt m n).num (e - f).toNat
      omega
  · split
    · have := len_le1 (show 1 < 4294967296 by omega)
      omega
    · have h3 := len_mul (Rat.divInt m n).den (2 ^ (f - e).toNat)
      have h4 := len_two (f - e).toNat
      omega

set_option maxHeartbeats 4000000 in
theorem anum_any (z e : Int) (vx : Value) (w : World) (hx : IsZ w vx z) (lz : zl z ≤ 1000) (he : -20000 ≤ e ∧ e ≤ 20000) :
    Calls Tryz.prog 185 #[vx, .int .i64 e] w (RetZ w (z * 2 ^ e.toNat)) := by
  obtain ⟨A, c, rfl, _⟩ := hx.form
  have L0 := (Lq.mk0 w).z hx
  have HR := Lib.hid (fun v W h => drat_any z e v W h (by omega) (by omega))
  have hfd : ∀ (x : Bool) (E F : Option Addr) (n1 n2 n3 n4 : Nat) (W : World), (Instr.field 55 (.agg #[.bool x, .slice E n1 n2, .slice F n3 n4]) 0).run Tryz.prog W = .ok (.agg #[.bool x, .slice E n1 n2]) W := fun _ _ _ _ _ _ _ _ => by kernel_rfl
  generalize z * 2 ^ e.toNat = a at *
  generalize 2 ^ (-e).toNat = d at *
  clear hx lz he
  go_enter Tryz.func185, Tryz.ntmps185
  go_wp2_with fail
  have L := ((L0.varZ (w.heap.size) (by simp) (ng z) A (zl z) c).varZ (w.heap.size + 1) (by simp) false none 0 0)
  have c00 := L.b0.c20
  have f00 := L.b0.fr 0
  have c01 := L.b0.c21
  have f01 := L.b0.fr 1
  have c10 := L.tl.b0.c20
  have c11 := L.tl.b0.c21
  (try go_wp2_with fail)
  refine (HR.out _ _ (isD_z (L.getZ (v := .agg #[.bool (ng z), .slice A (zl z) c]) (by simp)))).mono ?_
  rintro e w1 ⟨vq, rfl, iq, be⟩
  clear c00 f00 c01 f01 c10 c11
  obtain ⟨A9, c9, B9, k9, rfl, iz9, _, _⟩ := iq.form
  replace L := (L.step be).z iz9
  clear be iq iz9
  have c00 := L.b0.c20
  have f00 := L.b0.fr 0
  have c01 := L.b0.c21
  have f01 := L.b0.fr 1
  have c10 := L.tl.b0.c20
  have c11 := L.tl.b0.c21
  (try go_wp2_with fail)
  have LP := L.putZ (by omega) (by first | (simp; done) | (simp; omega)) (ng a) A9 (zl a) c9
  have k0 := LP.b0.c20
  have k1 := LP.b0.c21
  unfold put2 at k0 k1
  exact bodyPost_ret (v := .agg #[.bool (ng a), .slice A9 (zl a) c9]) (by simp [results, Tryz.results185, go_sem, k0, k1]) rfl ⟨_, rfl, LP.getZ (by simp), LP.below⟩
set_option maxHeartbeats 4000000 in
theorem absign_any (m e n f n2 f2 : Int) (vx vy vz : Value) (w : World) (hx : IsD w vx m e) (hy : IsD w vy n f) (hz : IsD w vz n2 f2) (lm : zl m ≤ 1000) :
    Calls Tryz.prog 145 #[vx, vy, vz] w (RetD8 w (if m < 0 then n else n2) (if m < 0 then f else f2)) := by
  obtain ⟨A, c, rfl, _, hn1⟩ := hx.form
  obtain ⟨B, d, rfl, _, hn2⟩ := hy.form
  obtain ⟨C, h, rfl, _, hn3⟩ := hz.form
  have L0 := (((Lq.mk0 w).n hn3).n hn2).n hn1
  have hs := fun v W h => dsign_any m e v W h (by omega)
  have hc : cmpI m 0 < 0 ↔ m < 0 := by unfold cmpI; (repeat' split) <;> omega
  obtain ⟨x, hx9⟩ : ∃ x, cmpI m 0 = x := ⟨_, rfl⟩
  rw [hx9] at hs hc
  have HS := Lib.hid hs
  clear hs hx9 hx hy hz hn1 hn2 hn3 lm
  by_cases q : m < 0
  · rw [if_pos q, if_pos q]
    have b1 : decide (x < 0) = true := decide_eq_true (by omega)
    clear hc q
    go_enter Tryz.func145, Tryz.ntmps145
    go_wp2_with fail
    have L := ((((L0.varD (w.heap.size) (by simp) (ng m) A (zl m) c e).varD (w.heap.size + 1) (by simp) (ng n) B (zl n) d f).varD (w.heap.size + 2) (by simp) (ng n2) C (zl n2) h f2).varD (w.heap.size + 3) (by simp) false none 0 0 0)
    obtain ⟨gr, hgr⟩ : ∃ gr, w.heap.size + 1 + 1 + 1 = gr := ⟨_, rfl⟩
    have hgr2 : w.heap.size + 3 = gr := hgr
    obtain ⟨gz, hgz⟩ : ∃ gz, w.heap.size + 1 + 1 = gz := ⟨_, rfl⟩
    have hgz2 : w.heap.size + 2 = gz := hgz
    rw [hgr2, hgz2] at L
    rw [hgr, hgz]
    have hgr3 : w.heap.size + 2 < gr := by omega
    have hgz3 : w.heap.size + 1 < gz := by omega
    have hgr4 : gz < gr := by omega
    clear hgr hgr2 hgz hgz2
    have c00 := L.b0.c30
    have f00 := L.b0.fr 0
    have c01 := L.b0.c31
    have f01 := L.b0.fr 1
    have c02 := L.b0.c32
    have f02 := L.b0.fr 2
    have c10 := L.tl.b0.c30
    have c11 := L.tl.b0.c31
    have c12 := L.tl.b0.c32
    have c20 := L.tl.tl.b0.c30
    have c21 := L.tl.tl.b0.c31
    have c22 := L.tl.tl.b0.c32
    have c30 := L.tl.tl.tl.b0.c30
    have c31 := L.tl.tl.tl.b0.c31
    have c32 := L.tl.tl.tl.b0.c32
    (try go_wp2_with fail)
    refine (HS.out _ _ (isD_n (m := m) (e := e) (s := .slice A (zl m) c) (L.getN (by simp)))).mono ?_
    rintro e w1 ⟨rfl, be⟩
    clear c00 f00 c01 f01 c02 f02 c10 c11 c12 c20 c21 c22 c30 c31 c32
    replace L := L.step be
    clear be
    have c00 := L.b0.c30
    have f00 := L.b0.fr 0
    have c01 := L.b0.c31
    have f01 := L.b0.fr 1
    have c02 := L.b0.c32
    have f02 := L.b0.fr 2
    have c10 := L.tl.b0.c30
    have c11 := L.tl.b0.c31
    have c12 := L.tl.b0.c32
    have c20 := L.tl.tl.b0.c30
    have c21 := L.tl.tl.b0.c31
    have c22 := L.tl.tl.b0.c32
    have c30 := L.tl.tl.tl.b0.c30
    have c31 := L.tl.tl.tl.b0.c31
    have c32 := L.tl.tl.tl.b0.c32
    (try go_wp2_with fail)
    have LP := L.putD (by omega) (by first | (simp; done) | (simp; omega)) (ng n) B (zl n) d (f)
    have k0 := LP.b0.c30
    have k1 := LP.b0.c31
    have k2 := LP.b0.c32
    unfold put3 at k0 k1 k2
    exact bodyPost_ret (v := .agg #[.bool (ng n), .slice B (zl n) d, .int .i64 (f)]) (by simp [results, Tryz.results145, go_sem, k0, k1, k2]) rfl ⟨_, rfl, isD_n (LP.getN (by simp)), LP.below⟩
  · rw [if_neg q, if_neg q]
    have b1 : decide (x < 0) = false := decide_eq_false (by omega)
    clear hc q
    go_enter Tryz.func145, Tryz.ntmps145
    go_wp2_with fail
    have L := ((((L0.varD (w.heap.size) (by simp) (ng m) A (zl m) c e).varD (w.heap.size + 1) (by simp) (ng n) B (zl n) d f).varD (w.heap.size + 2) (by simp) (ng n2) C (zl n2) h f2).varD (w.heap.size + 3) (by simp) false none 0 0 0)
    obtain ⟨gr, hgr⟩ : ∃ gr, w.heap.size + 1 + 1 + 1 = gr := ⟨_, rfl⟩
    have hgr2 : w.heap.size + 3 = gr := hgr
    obtain ⟨gz, hgz⟩ : ∃ gz, w.heap.size + 1 + 1 = gz := ⟨_, rfl⟩
    have hgz2 : w.heap.size + 2 = gz := hgz
    rw [hgr2, hgz2] at L
    rw [hgr, hgz]
    have hgr3 : w.heap.size + 2 < gr := by omega
    have hgz3 : w.heap.size + 1 < gz := by omega
    have hgr4 : gz < gr := by omega
    clear hgr hgr2 hgz hgz2
    have c00 := L.b0.c30
    have f00 := L.b0.fr 0
    have c01 := L.b0.c31
    have f01 := L.b0.fr 1
    have c02 := L.b0.c32
    have f02 := L.b0.fr 2
    have c10 := L.tl.b0.c30
    have c11 := L.tl.b0.c31
    have c12 := L.tl.b0.c32
    have c20 := L.tl.tl.b0.c30
    have c21 := L.tl.tl.b0.c31
    have c22 := L.tl.tl.b0.c32
    have c30 := L.tl.tl.tl.b0.c30
    have c31 := L.tl.tl.tl.b0.c31
    have c32 := L.tl.tl.tl.b0.c32
    (try go_wp2_with fail)
    refine (HS.out _ _ (isD_n (m := m) (e := e) (s := .slice A (zl m) c) (L.getN (by simp)))).mono ?_
    rintro e w1 ⟨rfl, be⟩
    clear c00 f00 c01 f01 c02 f02 c10 c11 c12 c20 c21 c22 c30 c31 c32
    replace L := L.step be
    clear be
    have c00 := L.b0.c30
    have f00 := L.b0.fr 0
    have c01 := L.b0.c31
    have f01 := L.b0.fr 1
    have c02 := L.b0.c32
    have f02 := L.b0.fr 2
    have c10 := L.tl.b0.c30
    have c11 := L.tl.b0.c31
    have c12 := L.tl.b0.c32
    have c20 := L.tl.tl.b0.c30
    have c21 := L.tl.tl.b0.c31
    have c22 := L.tl.tl.b0.c32
    have c30 := L.tl.tl.tl.b0.c30
    have c31 := L.tl.tl.tl.b0.c31
    have c32 := L.tl.tl.tl.b0.c32
    (try go_wp2_with fail)
    have LP := L.putD (by omega) (by first | (simp; done) | (simp; omega)) (ng n2) C (zl n2) h (f2)
    have k0 := LP.b0.c30
    have k1 := LP.b0.c31
    have k2 := LP.b0.c32
    unfold put3 at k0 k1 k2
    exact bodyPost_ret (v := .agg #[.bool (ng n2), .slice C (zl n2) h, .int .i64 (f2)]) (by simp [results, Tryz.results145, go_sem, k0, k1, k2]) rfl ⟨_, rfl, isD_n (LP.getN (by simp)), LP.below⟩
set_option maxHeartbeats 8000000 in
theorem aquot_any (m e n f : Int) (vx vy : Value) (w : World) (hx : IsD w vx m e) (hy : IsD w vy n f) (lm : zl m ≤ 25) (ln : zl n ≤ 25) (he : -3000 ≤ e ∧ e ≤ 3000) (hf : -3000 ≤ f ∧ f ≤ 3000) (hn0 : n ≠ 0) :
    Calls Tryz.prog 144 #[vx, vy] w (RetP w (qtA m e n f) (qtD m e n f)) := by
  obtain ⟨A, c, rfl, hz1, hn1⟩ := hx.form
  obtain ⟨B, d, rfl, hz2, hn2⟩ := hy.form
  have L0 := ((((Lq.mk0 w).z hz2).z hz1).n hn2).n hn1
  have hs := fun v W h => dsign_any m e v W h (by omega)
  have hc : cmpI m 0 = 0 ↔ m = 0 := by unfold cmpI; (repeat' split) <;> omega
  obtain ⟨x, hx9⟩ : ∃ x, cmpI m 0 = x := ⟨_, rfl⟩
  rw [hx9] at hs hc
  have HS := Lib.hid hs
  clear hs hx9
  unfold qtA qtD
  by_cases q : m = 0
  · rw [if_pos q, if_pos q]
    have hx0 : x = 0 := hc.2 q
    have b1 : (x == 0) = true := by rw [hx0]; rfl
    have ho := fun W => pof_any 0 W (by omega) (by omega)
    have HO := Lib.hid (fun W => (show Calls Tryz.prog 155 #[.int .i64 0] W (RetP W 0 1) from ho W))
    clear ho hc q hx hy hz1 hz2 hn1 hn2 lm ln he hf hn0 hx0
    go_enter Tryz.func144, Tryz.ntmps144
    go_wp2_with fail
    have L := (((L0.varD (w.heap.size) (by simp) (ng m) A (zl m) c e).varD (w.heap.size + 1) (by simp) (ng n) B (zl n) d f).varQ (w.heap.size + 2) (by simp) false none none 0 0 0 0)
    obtain ⟨gr, hgr⟩ : ∃ gr, w.heap.size + 1 + 1 = gr := ⟨_, rfl⟩
    have hgr2 : w.heap.size + 2 = gr := hgr
    rw [hgr2] at L
    rw [hgr]
    have hgr3 : w.heap.size + 1 < gr := by omega
    clear hgr hgr2
    have c00 := L.b0.c30
    have f00 := L.b0.fr 0
    have c01 := L.b0.c31
    have f01 := L.b0.fr 1
    have c02 := L.b0.c32
    have f02 := L.b0.fr 2
    have c10 := L.tl.b0.c30
    have c11 := L.tl.b0.c31
    have c12 := L.tl.b0.c32
    have c20 := L.tl.tl.b0.c30
    have c21 := L.tl.tl.b0.c31
    have c22 := L.tl.tl.b0.c32
    (try go_wp2_with fail)
    refine (HS.out _ _ (isD_n (m := m) (e := e) (s := .slice A (zl m) c) (L.getN (by simp)))).mono ?_
    rintro e w1 ⟨rfl, be⟩
    clear c00 f00 c01 f01 c02 f02 c10 c11 c12 c20 c21 c22
    replace L := L.step be
    clear be
    have c00 := L.b0.c30
    have f00 := L.b0.fr 0
    have c01 := L.b0.c31
    have f01 := L.b0.fr 1
    have c02 := L.b0.c32
    have f02 := L.b0.fr 2
    have c10 := L.tl.b0.c30
    have c11 := L.tl.b0.c31
    have c12 := L.tl.b0.c32
    have c20 := L.tl.tl.b0.c30
    have c21 := L.tl.tl.b0.c31
    have c22 := L.tl.tl.b0.c32
    (try go_wp2_with fail)
    refine (HO.out _).mono ?_
    rintro e w2 ⟨vq, rfl, iq, be⟩
    clear c00 f00 c01 f01 c02 f02 c10 c11 c12 c20 c21 c22
    obtain ⟨A9, c9, B9, k9, rfl, _, _, _⟩ := iq.form
    replace L := (L.step be).q iq
    clear be iq
    have c00 := L.b0.c30
    have f00 := L.b0.fr 0
    have c01 := L.b0.c31
    have f01 := L.b0.fr 1
    have c02 := L.b0.c32
    have f02 := L.b0.fr 2
    have c10 := L.tl.b0.c30
    have c11 := L.tl.b0.c31
    have c12 := L.tl.b0.c32
    have c20 := L.tl.tl.b0.c30
    have c21 := L.tl.tl.b0.c31
    have c22 := L.tl.tl.b0.c32
    (try go_wp2_with fail)
    have LP := L.putQ (by omega) (by first | (simp; done) | (simp; omega)) (ng (0)) A9 B9 (zl (0)) c9 (len (1)) k9
    have k0 := LP.b0.c30
    have k1 := LP.b0.c31
    have k2 := LP.b0.c32
    unfold put3 at k0 k1 k2
    exact bodyPost_ret (v := .agg #[.bool (ng (0)), .slice A9 (zl (0)) c9, .slice B9 (len (1)) k9]) (by simp [results, Tryz.results144, go_sem, k0, k1, k2]) rfl ⟨_, rfl, LP.getQ (by simp), LP.below⟩
  · rw [if_neg q, if_neg q]
    have b1 : (x == 0) = false := by simpa using (fun h => q (hc.1 h))
    obtain ⟨z1, z2⟩ := qt_low (m := m) hn0
    have hm := fun v u W h1 h2 => pmake_any m n v u W h1 h2 (by omega) (by omega) hn0
    obtain ⟨p, hp⟩ : ∃ p, (Rat.divInt m n).num = p := ⟨_, rfl⟩
    obtain ⟨r, hr⟩ : ∃ r, (Rat.divInt m n).den = r := ⟨_, rfl⟩
    rw [hp] at hm z1 ⊢
    rw [hr] at hm z2 ⊢
    obtain ⟨s, hs⟩ : ∃ s, e - f = s := ⟨_, rfl⟩
    have hs2 : f - e = -s := by omega
    rw [hs, hs2]
    have w1 : IntKind.i64.wrap (e - f) = s := by rw [hs, IntKind.wrap_i64]; omega
    have w2 : IntKind.i64.wrap (-s) = -s := by rw [IntKind.wrap_i64]; omega
    have zr : zl ((r : Nat) : Int) ≤ 25 := by show len r ≤ 25; omega
    have n1 := fun v W h => anum_any p s v W h (by omega) (by omega)
    have n2 := fun v W h => anum_any ((r : Nat) : Int) (-s) v W h (by omega) (by omega)
    have hc2 : ((r : Nat) : Int) * 2 ^ (-s).toNat = ((r * 2 ^ (-s).toNat : Nat) : Int) := by rw [Int.natCast_mul, cast2]
    rw [hc2] at n2
    obtain ⟨a9, ha9⟩ : ∃ a9, p * 2 ^ s.toNat = a9 := ⟨_, rfl⟩
    obtain ⟨d9, hd9⟩ : ∃ d9, r * 2 ^ (-s).toNat = d9 := ⟨_, rfl⟩
    rw [ha9] at n1 ⊢
    rw [hd9] at n2 ⊢
    have HM := Lib.hid hm
    have N1 := Lib.hid n1
    have N2 := Lib.hid n2
    have hfd : ∀ (x : Bool) (E : Option Addr) (n1 n2 : Nat) (W : World), (Instr.field 24 (.agg #[.bool x, .slice E n1 n2]) 1).run Tryz.prog W = .ok (.slice E n1 n2) W := fun _ _ _ _ _ => by kernel_rfl
    clear hm n1 n2 hp hr hs hs2 z1 z2 zr hc2 ha9 hd9 hc q hx hy hz1 hz2 hn1 hn2 lm ln he hf hn0
    go_enter Tryz.func144, Tryz.ntmps144
    go_wp2_with fail
    have L := (((L0.varD (w.heap.size) (by simp) (ng m) A (zl m) c e).varD (w.heap.size + 1) (by simp) (ng n) B (zl n) d f).varQ (w.heap.size + 2) (by simp) false none none 0 0 0 0)
    obtain ⟨gr, hgr⟩ : ∃ gr, w.heap.size + 1 + 1 = gr := ⟨_, rfl⟩
    have hgr2 : w.heap.size + 2 = gr := hgr
    rw [hgr2] at L
    rw [hgr]
    have hgr3 : w.heap.size + 1 < gr := by omega
    clear hgr hgr2
    have c00 := L.b0.c30
    have f00 := L.b0.fr 0
    have c01 := L.b0.c31
    have f01 := L.b0.fr 1
    have c02 := L.b0.c32
    have f02 := L.b0.fr 2
    have c10 := L.tl.b0.c30
    have c11 := L.tl.b0.c31
    have c12 := L.tl.b0.c32
    have c20 := L.tl.tl.b0.c30
    have c21 := L.tl.tl.b0.c31
    have c22 := L.tl.tl.b0.c32
    (try go_wp2_with fail)
    refine (HS.out _ _ (isD_n (m := m) (e := e) (s := .slice A (zl m) c) (L.getN (by simp)))).mono ?_
    rintro e w1 ⟨rfl, be⟩
    clear c00 f00 c01 f01 c02 f02 c10 c11 c12 c20 c21 c22
    replace L := L.step be
    clear be
    have c00 := L.b0.c30
    have f00 := L.b0.fr 0
    have c01 := L.b0.c31
    have f01 := L.b0.fr 1
    have c02 := L.b0.c32
    have f02 := L.b0.fr 2
    have c10 := L.tl.b0.c30
    have c11 := L.tl.b0.c31
    have c12 := L.tl.b0.c32
    have c20 := L.tl.tl.b0.c30
    have c21 := L.tl.tl.b0.c31
    have c22 := L.tl.tl.b0.c32
    (try go_wp2_with fail)
    refine (HM.out _ _ _ (L.getZ (v := .agg #[.bool (ng m), .slice A (zl m) c]) (by simp)) (L.getZ (v := .agg #[.bool (ng n), .slice B (zl n) d]) (by simp))).mono ?_
    rintro e w2 ⟨vq, rfl, iq, be⟩
    clear c00 f00 c01 f01 c02 f02 c10 c11 c12 c20 c21 c22
    obtain ⟨A8, c8, B8, k8, rfl, iz8, _, in8⟩ := iq.form
    replace L := ((L.step be).z (isZ_nat in8)).z iz8
    clear be iq iz8 in8
    have hl8 := L.b0.lt
    have g8n : gr ≠ w2.heap.size := by omega
    replace L := L.varQ w2.heap.size rfl (ng p) A8 B8 (zl p) c8 (len r) k8
    have c00 := L.b0.c30
    have c01 := L.b0.c31
    have c02 := L.b0.c32
    have c20 := L.tl.tl.b0.c30
    have c21 := L.tl.tl.b0.c31
    have c22 := L.tl.tl.b0.c32
    have c30 := L.tl.tl.tl.b0.c30
    have c31 := L.tl.tl.tl.b0.c31
    have c32 := L.tl.tl.tl.b0.c32
    go_wp2_with fail
    replace L := L.swap.drew
    clear c00 c01 c02 c20 c21 c22 c30 c31 c32
    have c00 := L.b0.c30
    have f00 := L.b0.fr 0
    have c01 := L.b0.c31
    have f01 := L.b0.fr 1
    have c02 := L.b0.c32
    have f02 := L.b0.fr 2
    have c10 := L.tl.b0.c30
    have c11 := L.tl.b0.c31
    have c12 := L.tl.b0.c32
    go_region_held3 (fun w' => w'.cell? ⟨w2.heap.size, 0, none⟩ = some (.bool (ng p)) ∧ w'.cell? ⟨w2.heap.size, 1, none⟩ = some (.slice A8 (zl p) c8) ∧ w'.cell? ⟨w2.heap.size, 2, none⟩ = some (.slice B8 (len r) k8)) (first | (with_reducible exact ⟨L.tl.b0.c30, L.tl.b0.c31, L.tl.b0.c32⟩) | exact ⟨L.tl.b0.c30, L.tl.b0.c31, L.tl.b0.c32⟩ | (have LP := L.putQ (by omega) (by first | (simp; done) | (simp; omega)) (ng a9) A9 B9 (zl a9) c9 (zl (d9 : Int)) k9; exact ⟨LP.tl.b0.c30, LP.tl.b0.c31, LP.tl.b0.c32⟩)) (first | (go_at_call 185; (with_reducible refine (N1.out _ _ ?_ ).mono ?_); (· (refine L.getZ ?_; (repeat (first | (with_reducible exact List.mem_cons_self) | apply List.mem_cons_of_mem)))); rintro e wh ⟨vh, rfl, iz, be⟩; obtain ⟨A9, c9, rfl, in9⟩ := iz.form; replace L := (L.step be).n in9; clear be iz in9; (try (have x00 := L.b0.c30; have x01 := L.b0.c31; have x02 := L.b0.c32; have y00 := L.b0.fr 0; have y01 := L.b0.fr 1; have y02 := L.b0.fr 2))) | (go_at_call 185; (with_reducible refine (N2.out _ _ ?_ ).mono ?_); (· (refine L.getZ ?_; (repeat (first | (with_reducible exact List.mem_cons_self) | apply List.mem_cons_of_mem)))); rintro e wh ⟨vh, rfl, iz, be⟩; obtain ⟨B9, k9, rfl, in9⟩ := iz.form; replace L := (L.step be).n in9; clear be iz in9; (try (have x00 := L.b0.c30; have x01 := L.b0.c31; have x02 := L.b0.c32; have y00 := L.b0.fr 0; have y01 := L.b0.fr 1; have y02 := L.b0.fr 2))))
    clear c00 f00 c01 f01 c02 f02 c10 c11 c12
    go_wp2_with fail
    have LP := L.putQ (by omega) (by first | (simp; done) | (simp; omega)) (ng a9) A9 B9 (zl a9) c9 (zl (d9 : Int)) k9
    have k0 := LP.b0.c30
    have k1 := LP.b0.c31
    have k2 := LP.b0.c32
    unfold put3 at k0 k1 k2
    exact bodyPost_ret (v := .agg #[.bool (ng a9), .slice A9 (zl a9) c9, .slice B9 (zl (d9 : Int)) k9]) (by simp [results, Tryz.results144, go_sem, k0, k1, k2]) rfl ⟨_, rfl, ⟨_, _, rfl, LP.getN (by simp), (show IsN _ _ (d9 : Int).natAbs from LP.getN (by simp))⟩, LP.below⟩
theorem div_ends {a b c d : Rat} (hab : a ≤ b) (hc : 0 < c) (hcd : c ≤ d) : (if a < 0 then a / c else a / d) = min4 (a / c) (a / d) (b / c) (b / d) ∧ (if b < 0 then b / d else b / c) = max4 (a / c) (a / d) (b / c) (b / d) := by
  have hd : 0 < d := rle_lt hc hcd
  have i1 := inv_anti hc hcd
  have i2 := Rat.le_of_lt (inv_pos hc)
  have i3 := Rat.le_of_lt (inv_pos hd)
  simp only [Rat.div_def]
  have b1 := mul_nn hab i2
  have b2 := mul_nn hab i3
  have m4 := min4_le (a * c⁻¹) (a * d⁻¹) (b * c⁻¹) (b * d⁻¹)
  have M4 := le_max4 (a * c⁻¹) (a * d⁻¹) (b * c⁻¹) (b * d⁻¹)
  constructor
  · by_cases h : a < 0
    · rw [if_pos h]
      have a1 := mul_np i1 (Rat.le_of_lt h)
      rw [Rat.mul_comm, Rat.mul_comm d⁻¹] at a1
      exact Rat.le_antisymm (le_min4 Rat.le_refl a1 b1 (Rat.le_trans a1 b2)) m4.1
    · rw [if_neg h]
      have a1 := mul_nn i1 (Rat.not_lt.1 h)
      rw [Rat.mul_comm, Rat.mul_comm c⁻¹] at a1
      exact Rat.le_antisymm (le_min4 a1 Rat.le_refl (Rat.le_trans a1 b1) b2) m4.2.1
  · by_cases h : b < 0
    · rw [if_pos h]
      have a1 := mul_np i1 (Rat.le_of_lt h)
      rw [Rat.mul_comm, Rat.mul_comm d⁻¹] at a1
      exact Rat.le_antisymm M4.2.2.2 (max4_le (Rat.le_trans b1 a1) b2 a1 Rat.le_refl)
    · rw [if_neg h]
      have a1 := mul_nn i1 (Rat.not_lt.1 h)
      rw [Rat.mul_comm, Rat.mul_comm c⁻¹] at a1
      exact Rat.le_antisymm M4.2.2.1 (max4_le b1 (Rat.le_trans b2 a1) Rat.le_refl a1)
theorem dq_lt0 (m e : Int) : dq m e < 0 ↔ m < 0 := by
  have h := dcm_lt m e 0 0
  rw [dcm_zero, show dq 0 0 = 0 from rfl] at h
  rw [← h]
  unfold cmpI
  (repeat' split) <;> omega
theorem dq_gt0 (m e : Int) : 0 < dq m e ↔ 0 < m := by
  have h := dcm_lt 0 0 m e
  rw [dcm_swap m e 0 0, dcm_zero, show dq 0 0 = 0 from rfl] at h
  rw [← h]
  unfold cmpI
  (repeat' split) <;> omega
theorem quo_lo {m e n f m2 e2 n2 f2 : Int} (h1 : dcm m e n f ≤ 0) (h2 : dcm m2 e2 n2 f2 ≤ 0) (hp : 0 < m2) (hp2 : 0 < n2) : Rat.divInt (qtA m e (if m < 0 then m2 else n2) (if m < 0 then e2 else f2)) (qtD m e (if m < 0 then m2 else n2) (if m < 0 then e2 else f2) : Int) = min4 (dq m e / dq m2 e2) (dq m e / dq n2 f2) (dq n f / dq m2 e2) (dq n f / dq n2 f2) := by
  rw [← (div_ends ((dcm_le _ _ _ _).1 h1) ((dq_gt0 m2 e2).2 hp) ((dcm_le _ _ _ _).1 h2)).1]
  have hs := dq_lt0 m e
  by_cases h : m < 0
  · rw [if_pos h, if_pos h, if_pos (hs.2 h)]
    exact qt_val (by omega)
  · rw [if_neg h, if_neg h, if_neg (fun h9 => h (hs.1 h9))]
    exact qt_val (by omega)
theorem quo_hi {m e n f m2 e2 n2 f2 : Int} (h1 : dcm m e n f ≤ 0) (h2 : dcm m2 e2 n2 f2 ≤ 0) (hp : 0 < m2) (hp2 : 0 < n2) : Rat.divInt (qtA n f (if n < 0 then n2 else m2) (if n < 0 then f2 else e2)) (qtD n f (if n < 0 then n2 else m2) (if n < 0 then f2 else e2) : Int) = max4 (dq m e / dq m2 e2) (dq m e / dq n2 f2) (dq n f / dq m2 e2) (dq n f / dq n2 f2) := by
  rw [← (div_ends ((dcm_le _ _ _ _).1 h1) ((dq_gt0 m2 e2).2 hp) ((dcm_le _ _ _ _).1 h2)).2]
  have hs := dq_lt0 n f
  by_cases h : n < 0
  · rw [if_pos h, if_pos h, if_pos (hs.2 h)]
    exact qt_val (by omega)
  · rw [if_neg h, if_neg h, if_neg (fun h9 => h (hs.1 h9))]
    exact qt_val (by omega)
theorem cmp_signs {m n : Int} (h : cmpI m 0 = cmpI n 0) : (cmpI m 0 < 0 → m < 0 ∧ n < 0) ∧ (¬ cmpI m 0 < 0 → cmpI m 0 ≠ 0 → 0 < m ∧ 0 < n) := by
  unfold cmpI at *
  (repeat' split at *) <;> omega
theorem Lq.name {w0 w : World} {ns : List (Value × Nat)} {zs : List (Value × Int)} {qs : List (Value × Int × Nat)} {bs : List (Nat × TypeId × Array Value)} (h : Lq w0 w ns zs qs bs) : ∃ x, w = x ∧ Lq w0 x ns zs qs bs := ⟨w, rfl, h⟩


set_option maxHeartbeats 100000000 in
theorem adiv_pos (m e n f m2 e2 n2 f2 k : Int) (vx vy : Value) (w : World) (hx : IsI w vx m e n f) (hy : IsI w vy m2 e2 n2 f2) (lm : zl m ≤ 25) (ln : zl n ≤ 25) (lm2 : zl m2 ≤ 25) (ln2 : zl n2 ≤ 25) (he : -3000 ≤ e ∧ e ≤ 3000) (hf : -3000 ≤ f ∧ f ≤ 3000) (he2 : -3000 ≤ e2 ∧ e2 ≤ 3000) (hf2 : -3000 ≤ f2 ∧ f2 ≤ 3000) (hd1 : dcm m e n f ≤ 0) (hd2 : dcm m2 e2 n2 f2 ≤ 0) (hk1 : -9223372036854775808 ≤ k) (hk2 : k ≤ 9223372036854775807) (hT : Tab w) (hw : workB k = true) (hxy : cmpI m2 0 = cmpI n2 0) (hx0 : ¬ cmpI m2 0 = 0) (hx1 : ¬ cmpI m2 0 < 0) :
    Calls Tryz.prog 90 #[vx, vy, .int .i64 k] w (RetEn w (min4 (dq m e / dq m2 e2) (dq m e / dq n2 f2) (dq n f / dq m2 e2) (dq n f / dq n2 f2)) (max4 (dq m e / dq m2 e2) (dq m e / dq n2 f2) (dq n f / dq m2 e2) (dq n f / dq n2 f2)) k) := by
  obtain ⟨A, c, B, d, rfl, hn1, hn2⟩ := hx.form
  obtain ⟨A2, k2, B2, d2, rfl, hn3, hn4⟩ := hy.form
  have L0 := ((((Lq.mk0 w).n hn4).n hn3).n hn2).n hn1
  have S0 := fun v W h => i10sign_any m2 e2 n2 f2 v W h (by omega) (by omega) (by omega) (by omega)
  have HW0 := fun W => aperm_any k W
  unfold RetSg at S0
  rw [hw] at HW0
  have HW := Lib.hid HW0
  clear HW0
  obtain ⟨ps1, ps2⟩ := (cmp_signs hxy).2 hx1 hx0
  obtain ⟨x, hx9⟩ : ∃ x, cmpI m2 0 = x := ⟨_, rfl⟩
  rw [if_pos hxy, decide_eq_true hxy] at S0
  rw [hx9] at S0 hx0 hx1
  have S := Lib.hid S0
  clear S0 hx9 hxy
  have b1 : (x == 0) = false := by simpa using hx0
  obtain ⟨lo, hlo⟩ : ∃ z, min4 (dq m e / dq m2 e2) (dq m e / dq n2 f2) (dq n f / dq m2 e2) (dq n f / dq n2 f2) = z := ⟨_, rfl⟩
  obtain ⟨hi, hhi⟩ : ∃ z, max4 (dq m e / dq m2 e2) (dq m e / dq n2 f2) (dq n f / dq m2 e2) (dq n f / dq n2 f2) = z := ⟨_, rfl⟩
  rw [hlo, hhi]
  have b2 : decide (x < 0) = false := decide_eq_false hx1
  have fl : min4 (dq m e / dq m2 e2) (dq m e / dq n2 f2) (dq n f / dq m2 e2) (dq n f / dq n2 f2) = lo := hlo
  have fh : max4 (dq m e / dq m2 e2) (dq m e / dq n2 f2) (dq n f / dq m2 e2) (dq n f / dq n2 f2) = hi := hhi
  have bs1 := fun v u z W h1 h2 h3 => absign_any m e m2 e2 n2 f2 v u z W h1 h2 h3 (by omega)
  have v1 := quo_lo hd1 hd2 ps1 ps2
  obtain ⟨p1, hp1⟩ : ∃ p, (if m < 0 then m2 else n2) = p := ⟨_, rfl⟩
  obtain ⟨s1, hs1⟩ : ∃ p, (if m < 0 then e2 else f2) = p := ⟨_, rfl⟩
  have pb1 : zl p1 ≤ 25 ∧ (-3000 ≤ s1 ∧ s1 ≤ 3000) ∧ p1 ≠ 0 := by rw [← hp1, ← hs1]; split <;> refine ⟨by omega, by omega, by omega⟩
  rw [hp1, hs1] at bs1 v1
  have qu1 := fun v u W h1 h2 => aquot_any m e p1 s1 v u W h1 h2 (by omega) (by omega) (by omega) (by omega) pb1.2.2
  have qs1 := qt_small (m := m) (e := e) (n := p1) (f := s1) pb1.2.2 (by omega) (by omega) (by omega) (by omega)
  have qp1 := qt_pos m e p1 s1
  obtain ⟨qa1, ha1⟩ : ∃ x, qtA m e p1 s1 = x := ⟨_, rfl⟩
  obtain ⟨qd1, hdd1⟩ : ∃ x, qtD m e p1 s1 = x := ⟨_, rfl⟩
  rw [ha1, hdd1] at v1 qu1 qs1
  rw [hdd1] at qp1
  rw [fl] at v1
  have bs2 := fun v u z W h1 h2 h3 => absign_any n f n2 f2 m2 e2 v u z W h1 h2 h3 (by omega)
  have v2 := quo_hi hd1 hd2 ps1 ps2
  obtain ⟨p2, hp2⟩ : ∃ p, (if n < 0 then n2 else m2) = p := ⟨_, rfl⟩
  obtain ⟨s2, hs2⟩ : ∃ p, (if n < 0 then f2 else e2) = p := ⟨_, rfl⟩
  have pb2 : zl p2 ≤ 25 ∧ (-3000 ≤ s2 ∧ s2 ≤ 3000) ∧ p2 ≠ 0 := by rw [← hp2, ← hs2]; split <;> refine ⟨by omega, by omega, by omega⟩
  rw [hp2, hs2] at bs2 v2
  have qu2 := fun v u W h1 h2 => aquot_any n f p2 s2 v u W h1 h2 (by omega) (by omega) (by omega) (by omega) pb2.2.2
  have qs2 := qt_small (m := n) (e := f) (n := p2) (f := s2) pb2.2.2 (by omega) (by omega) (by omega) (by omega)
  have qp2 := qt_pos n f p2 s2
  obtain ⟨qa2, ha2⟩ : ∃ x, qtA n f p2 s2 = x := ⟨_, rfl⟩
  obtain ⟨qd2, hdd2⟩ : ∃ x, qtD n f p2 s2 = x := ⟨_, rfl⟩
  rw [ha2, hdd2] at v2 qu2 qs2
  rw [hdd2] at qp2
  rw [fh] at v2
  have en := fun v u W h1 h2 (hW : Below w.heap.size w W) => aenclR_any qa1 qd1 qa2 qd2 k v u W h1 h2 qs1.1 qs1.2 qp1 qs2.1 qs2.2 qp2 hw (hT.mono hW)
  rw [v1, v2] at en
  have BS1 := Lib.hid bs1
  have BS2 := Lib.hid bs2
  have QU1 := Lib.hid qu1
  have QU2 := Lib.hid qu2
  have EN := Lib.hid en
  clear bs1 bs2 qu1 qu2 en v1 v2 hp1 hp2 hs1 hs2 pb1 pb2 qs1 qs2 qp1 qp2 ha1 ha2 hdd1 hdd2
  clear fl fh hlo hhi hw hx0 hx1 ps1 ps2 hx hy hn1 hn2 hn3 hn4 lm ln lm2 ln2 he hf he2 hf2 hd1 hd2 hk1 hk2 hT
  go_enter Tryz.func90, Tryz.ntmps90
  go_wp2_with fail
  have L := (((L0.varI (w.heap.size) (by simp) (ng m) A (zl m) c e (ng n) B (zl n) d f).varI (w.heap.size + 1) (by simp) (ng m2) A2 (zl m2) k2 e2 (ng n2) B2 (zl n2) d2 f2).varI (w.heap.size + 2) (by simp) false none 0 0 0 false none 0 0 0)
  obtain ⟨gr, hgr⟩ : ∃ gr, w.heap.size + 1 + 1 = gr := ⟨_, rfl⟩
  have hgr2 : w.heap.size + 2 = gr := hgr
  rw [hgr2] at L
  rw [hgr]
  have hgr3 : w.heap.size + 1 < gr := by omega
  clear hgr hgr2
  have c00 := L.b0.c60
  have f00 := L.b0.fr 0
  have c01 := L.b0.c61
  have f01 := L.b0.fr 1
  have c02 := L.b0.c62
  have f02 := L.b0.fr 2
  have c03 := L.b0.c63
  have f03 := L.b0.fr 3
  have c04 := L.b0.c64
  have f04 := L.b0.fr 4
  have c05 := L.b0.c65
  have f05 := L.b0.fr 5
  have c10 := L.tl.b0.c60
  have c11 := L.tl.b0.c61
  have c12 := L.tl.b0.c62
  have c13 := L.tl.b0.c63
  have c14 := L.tl.b0.c64
  have c15 := L.tl.b0.c65
  (try go_wp2_with fail)
  refine (S.out _ _ (isI_n (m := m2) (e := e2) (n := n2) (f := f2) (L.getN (v := .slice A2 (zl m2) k2) (x := (m2).natAbs) (by simp)) (L.getN (v := .slice B2 (zl n2) d2) (x := (n2).natAbs) (by simp)))).mono ?_
  rintro e w1 ⟨rfl, be⟩
  clear c00 f00 c01 f01 c02 f02 c03 f03 c04 f04 c05 f05 c10 c11 c12 c13 c14 c15
  replace L := L.step be
  clear be
  have c00 := L.b0.c60
  have f00 := L.b0.fr 0
  have c01 := L.b0.c61
  have f01 := L.b0.fr 1
  have c02 := L.b0.c62
  have f02 := L.b0.fr 2
  have c03 := L.b0.c63
  have f03 := L.b0.fr 3
  have c04 := L.b0.c64
  have f04 := L.b0.fr 4
  have c05 := L.b0.c65
  have f05 := L.b0.fr 5
  (try go_wp2_with fail)
  refine (HW.out _).mono ?_
  rintro e9 w' ⟨rfl, rfl⟩
  (try go_wp2_with fail)
  clear c00 f00 c01 f01 c02 f02 c03 f03 c04 f04 c05 f05
  have Q0 := Lib.hid (fun Z (hZ : Below w1.heap.size w1 Z) => (L.tl.tl.b0.mono hZ).c60)
  have Q1 := Lib.hid (fun Z (hZ : Below w1.heap.size w1 Z) => (L.tl.tl.b0.mono hZ).c61)
  have Q2 := Lib.hid (fun Z (hZ : Below w1.heap.size w1 Z) => (L.tl.tl.b0.mono hZ).c62)
  have Q3 := Lib.hid (fun Z (hZ : Below w1.heap.size w1 Z) => (L.tl.tl.b0.mono hZ).c63)
  have Q4 := Lib.hid (fun Z (hZ : Below w1.heap.size w1 Z) => (L.tl.tl.b0.mono hZ).c64)
  have Q5 := Lib.hid (fun Z (hZ : Below w1.heap.size w1 Z) => (L.tl.tl.b0.mono hZ).c65)
  have Q6 := Lib.hid (fun Z (hZ : Below w1.heap.size w1 Z) => (L.tl.b0.mono hZ).c60)
  have Q7 := Lib.hid (fun Z (hZ : Below w1.heap.size w1 Z) => (L.tl.b0.mono hZ).c61)
  have Q8 := Lib.hid (fun Z (hZ : Below w1.heap.size w1 Z) => (L.tl.b0.mono hZ).c62)
  have Q9 := Lib.hid (fun Z (hZ : Below w1.heap.size w1 Z) => (L.tl.b0.mono hZ).c63)
  have Q10 := Lib.hid (fun Z (hZ : Below w1.heap.size w1 Z) => (L.tl.b0.mono hZ).c64)
  have Q11 := Lib.hid (fun Z (hZ : Below w1.heap.size w1 Z) => (L.tl.b0.mono hZ).c65)
  have hb1 := L.tl.tl.b0.lt
  have hb2 := L.tl.b0.lt
  have D0 : Dq w1 w1 [(.slice A (zl m) c, m.natAbs), (.slice B (zl n) d, n.natAbs), (.slice A2 (zl m2) k2, m2.natAbs), (.slice B2 (zl n2) d2, n2.natAbs)] [] [] [] := ⟨((((Lq.mk0 w1).n (L.getN (v := .slice B2 (zl n2) d2) (x := (n2).natAbs) (by simp))).n (L.getN (v := .slice A2 (zl m2) k2) (x := (m2).natAbs) (by simp))).n (L.getN (v := .slice B (zl n) d) (x := (n).natAbs) (by simp))).n (L.getN (v := .slice A (zl m) c) (x := (m).natAbs) (by simp)), List.nodup_nil, fun p hp => by cases hp⟩
  have D := D0.drew
  have LL := Lib.hid L
  clear L
  obtain ⟨K, hK⟩ : ∃ K, w1.heap.size = K := ⟨_, rfl⟩
  have hz0 : K ≤ w1.heap.size := by omega
  have hc1 : w.heap.size < K := by omega
  have hc2 : w.heap.size + 1 < K := by omega
  have hmd : w1.drew.heap.size = K := hK
  go_cut [10] from 40 to 50 (fun s5 wx => Made1Q w1 qa1 qd1 s5 wx)
  case first =>
    go_region_held3 (fun w' => w'.cell? ⟨w.heap.size, 0, none⟩ = some (.bool (ng m)) ∧ w'.cell? ⟨w.heap.size, 1, none⟩ = some (.slice A (zl m) c) ∧ w'.cell? ⟨w.heap.size, 2, none⟩ = some (.int .i64 e) ∧ w'.cell? ⟨w.heap.size, 3, none⟩ = some (.bool (ng n)) ∧ w'.cell? ⟨w.heap.size, 4, none⟩ = some (.slice B (zl n) d) ∧ w'.cell? ⟨w.heap.size, 5, none⟩ = some (.int .i64 f) ∧ w'.cell? ⟨w.heap.size + 1, 0, none⟩ = some (.bool (ng m2)) ∧ w'.cell? ⟨w.heap.size + 1, 1, none⟩ = some (.slice A2 (zl m2) k2) ∧ w'.cell? ⟨w.heap.size + 1, 2, none⟩ = some (.int .i64 e2) ∧ w'.cell? ⟨w.heap.size + 1, 3, none⟩ = some (.bool (ng n2)) ∧ w'.cell? ⟨w.heap.size + 1, 4, none⟩ = some (.slice B2 (zl n2) d2) ∧ w'.cell? ⟨w.heap.size + 1, 5, none⟩ = some (.int .i64 f2)) (((try dsimp only); refine ⟨?_, ?_, ?_, ?_, ?_, ?_, ?_, ?_, ?_, ?_, ?_, ?_⟩ <;> (repeat (first | (with_reducible exact Q0.out _ D.lq.below) | (with_reducible exact Q0.out _ D0.lq.below) | (with_reducible exact Q1.out _ D.lq.below) | (with_reducible exact Q1.out _ D0.lq.below) | (with_reducible exact Q2.out _ D.lq.below) | (with_reducible exact Q2.out _ D0.lq.below) | (with_reducible exact Q3.out _ D.lq.below) | (with_reducible exact Q3.out _ D0.lq.below) | (with_reducible exact Q4.out _ D.lq.below) | (with_reducible exact Q4.out _ D0.lq.below) | (with_reducible exact Q5.out _ D.lq.below) | (with_reducible exact Q5.out _ D0.lq.below) | (with_reducible exact Q6.out _ D.lq.below) | (with_reducible exact Q6.out _ D0.lq.below) | (with_reducible exact Q7.out _ D.lq.below) | (with_reducible exact Q7.out _ D0.lq.below) | (with_reducible exact Q8.out _ D.lq.below) | (with_reducible exact Q8.out _ D0.lq.below) | (with_reducible exact Q9.out _ D.lq.below) | (with_reducible exact Q9.out _ D0.lq.below) | (with_reducible exact Q10.out _ D.lq.below) | (with_reducible exact Q10.out _ D0.lq.below) | (with_reducible exact Q11.out _ D.lq.below) | (with_reducible exact Q11.out _ D0.lq.below) | (with_reducible refine c_alloc _ ?_) | (with_reducible refine c_drew ?_) | (with_reducible refine c_set ?_ (by assumption) ?_) | omega)))) (first | (go_at_call 145; (with_reducible refine (BS1.out _ _ _ _ ?_ ?_ ?_).mono ?_); (· (first | (with_reducible refine isD_n (D.getN ?_); (repeat (first | (with_reducible exact List.mem_cons_self) | apply List.mem_cons_of_mem))) | (with_reducible refine isD_n ((D.box false none none 0 0 0 0).getN ?_); (repeat (first | (with_reducible exact List.mem_cons_self) | apply List.mem_cons_of_mem))) | (with_reducible refine isD_n ((D0.box false none none 0 0 0 0).drew.getN ?_); (repeat (first | (with_reducible exact List.mem_cons_self) | apply List.mem_cons_of_mem))))); (· (first | (with_reducible refine isD_n (D.getN ?_); (repeat (first | (with_reducible exact List.mem_cons_self) | apply List.mem_cons_of_mem))) | (with_reducible refine isD_n ((D.box false none none 0 0 0 0).getN ?_); (repeat (first | (with_reducible exact List.mem_cons_self) | apply List.mem_cons_of_mem))) | (with_reducible refine isD_n ((D0.box false none none 0 0 0 0).drew.getN ?_); (repeat (first | (with_reducible exact List.mem_cons_self) | apply List.mem_cons_of_mem))))); (· (first | (with_reducible refine isD_n (D.getN ?_); (repeat (first | (with_reducible exact List.mem_cons_self) | apply List.mem_cons_of_mem))) | (with_reducible refine isD_n ((D.box false none none 0 0 0 0).getN ?_); (repeat (first | (with_reducible exact List.mem_cons_self) | apply List.mem_cons_of_mem))) | (with_reducible refine isD_n ((D0.box false none none 0 0 0 0).drew.getN ?_); (repeat (first | (with_reducible exact List.mem_cons_self) | apply List.mem_cons_of_mem))))); rintro e9 wh ⟨vh, rfl, id, be⟩; obtain ⟨A7, c7, rfl, _, in9⟩ := id.form; (first | (replace D := D.step be) | (replace D := (D.boxM hmd false none none 0 0 0 0).step be) | (replace D := (D.box false none none 0 0 0 0).step be)); have hz := be.size; (try simp at hz); replace D := D.n in9; clear id in9; (try (have x00 := D.lq.b0.c30; have x01 := D.lq.b0.c31; have x02 := D.lq.b0.c32; have y00 := D.lq.b0.fr 0; have y01 := D.lq.b0.fr 1; have y02 := D.lq.b0.fr 2)); (try obtain ⟨na, nb, nc, nd, nl⟩ := D.n0)) | (go_at_call 144; (with_reducible refine (QU1.out _ _ _ ?_ ?_).mono ?_); (· (first | (with_reducible refine isD_n (D.getN ?_); (repeat (first | (with_reducible exact List.mem_cons_self) | apply List.mem_cons_of_mem))) | (with_reducible refine isD_n ((D.box false none none 0 0 0 0).getN ?_); (repeat (first | (with_reducible exact List.mem_cons_self) | apply List.mem_cons_of_mem))) | (with_reducible refine isD_n ((D0.box false none none 0 0 0 0).drew.getN ?_); (repeat (first | (with_reducible exact List.mem_cons_self) | apply List.mem_cons_of_mem))))); (· (first | (with_reducible refine isD_n (D.getN ?_); (repeat (first | (with_reducible exact List.mem_cons_self) | apply List.mem_cons_of_mem))) | (with_reducible refine isD_n ((D.box false none none 0 0 0 0).getN ?_); (repeat (first | (with_reducible exact List.mem_cons_self) | apply List.mem_cons_of_mem))) | (with_reducible refine isD_n ((D0.box false none none 0 0 0 0).drew.getN ?_); (repeat (first | (with_reducible exact List.mem_cons_self) | apply List.mem_cons_of_mem))))); rintro e9 wh ⟨vh, rfl, iq, be⟩; obtain ⟨A8, c8, B8, k8, rfl, _, _, _⟩ := iq.form; (first | (replace D := D.step be) | (replace D := (D.boxM hmd false none none 0 0 0 0).step be) | (replace D := (D.box false none none 0 0 0 0).step be)); have hz := be.size; (try simp at hz); replace D := D.q iq; clear iq; (try (have x00 := D.lq.b0.c30; have x01 := D.lq.b0.c31; have x02 := D.lq.b0.c32; have y00 := D.lq.b0.fr 0; have y01 := D.lq.b0.fr 1; have y02 := D.lq.b0.fr 2)); (try obtain ⟨na, nb, nc, nd, nl⟩ := D.n0)))
    all_goals
      go_wp2_with fail
      go_meet
      first
      | ((with_reducible refine made1q_a D ?_) <;> (repeat (first | (with_reducible exact List.mem_cons_self) | apply List.mem_cons_of_mem)))
      | ((with_reducible refine made1q_b D ?_) <;> (repeat (first | (with_reducible exact List.mem_cons_self) | apply List.mem_cons_of_mem)))
  case rest =>
    obtain ⟨gq1, Aq1, cq1, Bq1, kq1, rfl, hg, bw, hb3, iq⟩ := hcut
    have hg4 := LL.out.b0.lt
    have hgq1 : gr < gq1 := by omega
    have hgs1 := hb3.lt
    have L := ((LL.out.step bw).q iq).b hb3
    clear D D0 hmd hz0 hK LL hb3 iq bw hb1 hb2 hc1 hc2 hg hg4 Q0 Q1 Q2 Q3 Q4 Q5 Q6 Q7 Q8 Q9 Q10 Q11
    generalize wc = wd1 at *
    (try go_wp2_with fail)
    replace L := L.swap
    have Q0 := Lib.hid (fun Z (hZ : Below wd1.heap.size wd1 Z) => (L.tl.tl.tl.b0.mono hZ).c60)
    have Q1 := Lib.hid (fun Z (hZ : Below wd1.heap.size wd1 Z) => (L.tl.tl.tl.b0.mono hZ).c61)
    have Q2 := Lib.hid (fun Z (hZ : Below wd1.heap.size wd1 Z) => (L.tl.tl.tl.b0.mono hZ).c62)
    have Q3 := Lib.hid (fun Z (hZ : Below wd1.heap.size wd1 Z) => (L.tl.tl.tl.b0.mono hZ).c63)
    have Q4 := Lib.hid (fun Z (hZ : Below wd1.heap.size wd1 Z) => (L.tl.tl.tl.b0.mono hZ).c64)
    have Q5 := Lib.hid (fun Z (hZ : Below wd1.heap.size wd1 Z) => (L.tl.tl.tl.b0.mono hZ).c65)
    have Q6 := Lib.hid (fun Z (hZ : Below wd1.heap.size wd1 Z) => (L.tl.tl.b0.mono hZ).c60)
    have Q7 := Lib.hid (fun Z (hZ : Below wd1.heap.size wd1 Z) => (L.tl.tl.b0.mono hZ).c61)
    have Q8 := Lib.hid (fun Z (hZ : Below wd1.heap.size wd1 Z) => (L.tl.tl.b0.mono hZ).c62)
    have Q9 := Lib.hid (fun Z (hZ : Below wd1.heap.size wd1 Z) => (L.tl.tl.b0.mono hZ).c63)
    have Q10 := Lib.hid (fun Z (hZ : Below wd1.heap.size wd1 Z) => (L.tl.tl.b0.mono hZ).c64)
    have Q11 := Lib.hid (fun Z (hZ : Below wd1.heap.size wd1 Z) => (L.tl.tl.b0.mono hZ).c65)
    have hb1 := L.tl.tl.tl.b0.lt
    have hb2 := L.tl.tl.b0.lt
    have D0 : Dq wd1 wd1 [(.slice A (zl m) c, m.natAbs), (.slice B (zl n) d, n.natAbs), (.slice A2 (zl m2) k2, m2.natAbs), (.slice B2 (zl n2) d2, n2.natAbs)] [] [] [] := ⟨((((Lq.mk0 wd1).n (L.getN (v := .slice B2 (zl n2) d2) (x := (n2).natAbs) (by simp))).n (L.getN (v := .slice A2 (zl m2) k2) (x := (m2).natAbs) (by simp))).n (L.getN (v := .slice B (zl n) d) (x := (n).natAbs) (by simp))).n (L.getN (v := .slice A (zl m) c) (x := (m).natAbs) (by simp)), List.nodup_nil, fun p hp => by cases hp⟩
    have D := D0.drew
    have LL := Lib.hid L
    clear L
    obtain ⟨K, hK⟩ : ∃ K, wd1.heap.size = K := ⟨_, rfl⟩
    have hz0 : K ≤ wd1.heap.size := by omega
    have hc1 : w.heap.size < K := by omega
    have hc2 : w.heap.size + 1 < K := by omega
    have hmd : wd1.drew.heap.size = K := hK
    go_cut [11] from 50 to 60 (fun s5 wx => Made1Q wd1 qa2 qd2 s5 wx)
    case first =>
      go_region_held3 (fun w' => w'.cell? ⟨w.heap.size, 0, none⟩ = some (.bool (ng m)) ∧ w'.cell? ⟨w.heap.size, 1, none⟩ = some (.slice A (zl m) c) ∧ w'.cell? ⟨w.heap.size, 2, none⟩ = some (.int .i64 e) ∧ w'.cell? ⟨w.heap.size, 3, none⟩ = some (.bool (ng n)) ∧ w'.cell? ⟨w.heap.size, 4, none⟩ = some (.slice B (zl n) d) ∧ w'.cell? ⟨w.heap.size, 5, none⟩ = some (.int .i64 f) ∧ w'.cell? ⟨w.heap.size + 1, 0, none⟩ = some (.bool (ng m2)) ∧ w'.cell? ⟨w.heap.size + 1, 1, none⟩ = some (.slice A2 (zl m2) k2) ∧ w'.cell? ⟨w.heap.size + 1, 2, none⟩ = some (.int .i64 e2) ∧ w'.cell? ⟨w.heap.size + 1, 3, none⟩ = some (.bool (ng n2)) ∧ w'.cell? ⟨w.heap.size + 1, 4, none⟩ = some (.slice B2 (zl n2) d2) ∧ w'.cell? ⟨w.heap.size + 1, 5, none⟩ = some (.int .i64 f2)) (((try dsimp only); refine ⟨?_, ?_, ?_, ?_, ?_, ?_, ?_, ?_, ?_, ?_, ?_, ?_⟩ <;> (repeat (first | (with_reducible exact Q0.out _ D.lq.below) | (with_reducible exact Q0.out _ D0.lq.below) | (with_reducible exact Q1.out _ D.lq.below) | (with_reducible exact Q1.out _ D0.lq.below) | (with_reducible exact Q2.out _ D.lq.below) | (with_reducible exact Q2.out _ D0.lq.below) | (with_reducible exact Q3.out _ D.lq.below) | (with_reducible exact Q3.out _ D0.lq.below) | (with_reducible exact Q4.out _ D.lq.below) | (with_reducible exact Q4.out _ D0.lq.below) | (with_reducible exact Q5.out _ D.lq.below) | (with_reducible exact Q5.out _ D0.lq.below) | (with_reducible exact Q6.out _ D.lq.below) | (with_reducible exact Q6.out _ D0.lq.below) | (with_reducible exact Q7.out _ D.lq.below) | (with_reducible exact Q7.out _ D0.lq.below) | (with_reducible exact Q8.out _ D.lq.below) | (with_reducible exact Q8.out _ D0.lq.below) | (with_reducible exact Q9.out _ D.lq.below) | (with_reducible exact Q9.out _ D0.lq.below) | (with_reducible exact Q10.out _ D.lq.below) | (with_reducible exact Q10.out _ D0.lq.below) | (with_reducible exact Q11.out _ D.lq.below) | (with_reducible exact Q11.out _ D0.lq.below) | (with_reducible refine c_alloc _ ?_) | (with_reducible refine c_drew ?_) | (with_reducible refine c_set ?_ (by assumption) ?_) | omega)))) (first | (go_at_call 145; (with_reducible refine (BS2.out _ _ _ _ ?_ ?_ ?_).mono ?_); (· (first | (with_reducible refine isD_n (D.getN ?_); (repeat (first | (with_reducible exact List.mem_cons_self) | apply List.mem_cons_of_mem))) | (with_reducible refine isD_n ((D.box false none none 0 0 0 0).getN ?_); (repeat (first | (with_reducible exact List.mem_cons_self) | apply List.mem_cons_of_mem))) | (with_reducible refine isD_n ((D0.box false none none 0 0 0 0).drew.getN ?_); (repeat (first | (with_reducible exact List.mem_cons_self) | apply List.mem_cons_of_mem))))); (· (first | (with_reducible refine isD_n (D.getN ?_); (repeat (first | (with_reducible exact List.mem_cons_self) | apply List.mem_cons_of_mem))) | (with_reducible refine isD_n ((D.box false none none 0 0 0 0).getN ?_); (repeat (first | (with_reducible exact List.mem_cons_self) | apply List.mem_cons_of_mem))) | (with_reducible refine isD_n ((D0.box false none none 0 0 0 0).drew.getN ?_); (repeat (first | (with_reducible exact List.mem_cons_self) | apply List.mem_cons_of_mem))))); (· (first | (with_reducible refine isD_n (D.getN ?_); (repeat (first | (with_reducible exact List.mem_cons_self) | apply List.mem_cons_of_mem))) | (with_reducible refine isD_n ((D.box false none none 0 0 0 0).getN ?_); (repeat (first | (with_reducible exact List.mem_cons_self) | apply List.mem_cons_of_mem))) | (with_reducible refine isD_n ((D0.box false none none 0 0 0 0).drew.getN ?_); (repeat (first | (with_reducible exact List.mem_cons_self) | apply List.mem_cons_of_mem))))); rintro e9 wh ⟨vh, rfl, id, be⟩; obtain ⟨A7, c7, rfl, _, in9⟩ := id.form; (first | (replace D := D.step be) | (replace D := (D.boxM hmd false none none 0 0 0 0).step be) | (replace D := (D.box false none none 0 0 0 0).step be)); have hz := be.size; (try simp at hz); replace D := D.n in9; clear id in9; (try (have x00 := D.lq.b0.c30; have x01 := D.lq.b0.c31; have x02 := D.lq.b0.c32; have y00 := D.lq.b0.fr 0; have y01 := D.lq.b0.fr 1; have y02 := D.lq.b0.fr 2)); (try obtain ⟨na, nb, nc, nd, nl⟩ := D.n0)) | (go_at_call 144; (with_reducible refine (QU2.out _ _ _ ?_ ?_).mono ?_); (· (first | (with_reducible refine isD_n (D.getN ?_); (repeat (first | (with_reducible exact List.mem_cons_self) | apply List.mem_cons_of_mem))) | (with_reducible refine isD_n ((D.box false none none 0 0 0 0).getN ?_); (repeat (first | (with_reducible exact List.mem_cons_self) | apply List.mem_cons_of_mem))) | (with_reducible refine isD_n ((D0.box false none none 0 0 0 0).drew.getN ?_); (repeat (first | (with_reducible exact List.mem_cons_self) | apply List.mem_cons_of_mem))))); (· (first | (with_reducible refine isD_n (D.getN ?_); (repeat (first | (with_reducible exact List.mem_cons_self) | apply List.mem_cons_of_mem))) | (with_reducible refine isD_n ((D.box false none none 0 0 0 0).getN ?_); (repeat (first | (with_reducible exact List.mem_cons_self) | apply List.mem_cons_of_mem))) | (with_reducible refine isD_n ((D0.box false none none 0 0 0 0).drew.getN ?_); (repeat (first | (with_reducible exact List.mem_cons_self) | apply List.mem_cons_of_mem))))); rintro e9 wh ⟨vh, rfl, iq, be⟩; obtain ⟨A8, c8, B8, k8, rfl, _, _, _⟩ := iq.form; (first | (replace D := D.step be) | (replace D := (D.boxM hmd false none none 0 0 0 0).step be) | (replace D := (D.box false none none 0 0 0 0).step be)); have hz := be.size; (try simp at hz); replace D := D.q iq; clear iq; (try (have x00 := D.lq.b0.c30; have x01 := D.lq.b0.c31; have x02 := D.lq.b0.c32; have y00 := D.lq.b0.fr 0; have y01 := D.lq.b0.fr 1; have y02 := D.lq.b0.fr 2)); (try obtain ⟨na, nb, nc, nd, nl⟩ := D.n0)))
      all_goals
        go_wp2_with fail
        go_meet
        first
        | ((with_reducible refine made1q_a D ?_) <;> (repeat (first | (with_reducible exact List.mem_cons_self) | apply List.mem_cons_of_mem)))
        | ((with_reducible refine made1q_b D ?_) <;> (repeat (first | (with_reducible exact List.mem_cons_self) | apply List.mem_cons_of_mem)))
    case rest =>
      obtain ⟨gq2, Aq2, cq2, Bq2, kq2, rfl, hg, bw, hb3, iq⟩ := hcut
      have hg4 := LL.out.b0.lt
      have hgq2 : gr < gq2 := by omega
      have hgs2 := hb3.lt
      have L := ((LL.out.step bw).q iq).b hb3
      clear D D0 hmd hz0 hK LL hb3 iq bw hb1 hb2 hc1 hc2 hg hg4 Q0 Q1 Q2 Q3 Q4 Q5 Q6 Q7 Q8 Q9 Q10 Q11
      generalize wc = wd2 at *
      have c00 := L.b0.c30
      have c01 := L.b0.c31
      have c02 := L.b0.c32
      have c20 := L.tl.tl.b0.c30
      have c21 := L.tl.tl.b0.c31
      have c22 := L.tl.tl.b0.c32
      (try go_wp2_with fail)
      refine (EN.out _ _ _ (L.getQ (v := .agg #[.bool (ng qa1), .slice Aq1 (zl qa1) cq1, .slice Bq1 (len qd1) kq1]) (a := qa1) (d := qd1) (by simp)) (L.getQ (v := .agg #[.bool (ng qa2), .slice Aq2 (zl qa2) cq2, .slice Bq2 (len qd2) kq2]) (a := qa2) (d := qd2) (by simp)) L.below).mono ?_
      intro e9 w19 hen
      obtain ⟨v19, er, m9, e9', n9, f9, rfl, ii, be, hback⟩ := hen.form
      obtain ⟨A5, c5, B5, d5, rfl, ia, ib⟩ := ii.form
      replace L := (((L.step be).n ib).n ia).swap
      clear be ii ia ib hen
      have HBK := Lib.hid hback
      clear hback
      clear c00 c01 c02 c20 c21 c22
      have c00 := L.b0.c60
      have f00 := L.b0.fr 0
      have c01 := L.b0.c61
      have f01 := L.b0.fr 1
      have c02 := L.b0.c62
      have f02 := L.b0.fr 2
      have c03 := L.b0.c63
      have f03 := L.b0.fr 3
      have c04 := L.b0.c64
      have f04 := L.b0.fr 4
      have c05 := L.b0.c65
      have f05 := L.b0.fr 5
      go_wp2_with fail
      have LP := L.putI (by omega) (by first | (simp; done) | (simp; omega)) (ng m9) A5 (zl m9) c5 e9' (ng n9) B5 (zl n9) d5 f9
      have k0' := LP.b0.c60
      have k1' := LP.b0.c61
      have k2' := LP.b0.c62
      have k3' := LP.b0.c63
      have k4' := LP.b0.c64
      have k5' := LP.b0.c65
      unfold put6 at k0' k1' k2' k3' k4' k5'
      exact bodyPost_ret (v := .tuple #[.agg #[.bool (ng m9), .slice A5 (zl m9) c5, .int .i64 e9', .bool (ng n9), .slice B5 (zl n9) d5, .int .i64 f9], .int .i64 er]) (by simp [results, Tryz.results90, go_sem, k0', k1', k2', k3', k4', k5']) rfl (HBK.out _ _ _ (isI_n (LP.getN (by simp)) (LP.getN (by simp))) LP.below)

/-- A value stands for the span from a to b. -/
def IsS (w : World) (v : Value) (a b : Int) : Prop := ∃ s t, v = .agg #[.bool (ng a), s, .bool (ng b), t] ∧ IsN w s a.natAbs ∧ IsN w t b.natAbs
theorem IsS.mono {w w' : World} {v : Value} {a b : Int} (h : IsS w v a b) (hb : Below w.heap.size w w') : IsS w' v a b := by
  obtain ⟨s, t, r, hs, ht⟩ := h
  exact ⟨s, t, r, hs.mono hb, ht.mono hb⟩
theorem IsS.form {w : World} {v : Value} {a b : Int} (h : IsS w v a b) : ∃ A c B d, v = .agg #[.bool (ng a), .slice A (zl a) c, .bool (ng b), .slice B (zl b) d] ∧ IsN w (.slice A (zl a) c) a.natAbs ∧ IsN w (.slice B (zl b) d) b.natAbs := by
  obtain ⟨s, t, r, hs, ht⟩ := h
  obtain ⟨A, c, e1⟩ := hs.form
  obtain ⟨B, d, e2⟩ := ht.form
  subst e1 e2
  exact ⟨A, c, B, d, r, hs, ht⟩
section
variable {w0 w : World} {ns : List (Value × Nat)} {zs : List (Value × Int)} {qs : List (Value × Int × Nat)} {bs : List (Nat × TypeId × Array Value)}
end
theorem Var.c40 {w : World} {g : Nat} {ty : TypeId} {x0 x1 x2 x3 : Value} (h : Var w g ty #[x0, x1, x2, x3]) : w.cell? ⟨g, 0, none⟩ = some x0 := h.cell 0
theorem Var.c41 {w : World} {g : Nat} {ty : TypeId} {x0 x1 x2 x3 : Value} (h : Var w g ty #[x0, x1, x2, x3]) : w.cell? ⟨g, 1, none⟩ = some x1 := h.cell 1
theorem Var.c42 {w : World} {g : Nat} {ty : TypeId} {x0 x1 x2 x3 : Value} (h : Var w g ty #[x0, x1, x2, x3]) : w.cell? ⟨g, 2, none⟩ = some x2 := h.cell 2
theorem Var.c43 {w : World} {g : Nat} {ty : TypeId} {x0 x1 x2 x3 : Value} (h : Var w g ty #[x0, x1, x2, x3]) : w.cell? ⟨g, 3, none⟩ = some x3 := h.cell 3
theorem isZ_s {w : World} {s : Value} {z : Int} (h : IsN w s z.natAbs) : IsZ w (.agg #[.bool (ng z), s]) z := ⟨s, rfl, h⟩

theorem Lq.subx {w0 w : World} {ns : List (Value × Nat)} {zs : List (Value × Int)} {qs : List (Value × Int × Nat)} {bs : List (Nat × TypeId × Array Value)} (h : Lq w0 w ns zs qs bs) {ns' : List (Value × Nat)} {bs' : List (Nat × TypeId × Array Value)} (h1 : ∀ p ∈ ns', p ∈ ns) (h2 : ∀ b ∈ bs', b ∈ bs) : Lq w0 w ns' [] [] bs' :=
  ⟨h.below, fun x hx => h.ns x (h1 x hx), fun _ x => (by cases x), fun _ x => (by cases x), fun x hx => h.bs x (h2 x hx)⟩

def okX (p least : Int) : Bool := decide (least ≤ p) && decide (p ≤ 4096)
set_option maxHeartbeats 1000000 in
theorem xperm_any (p least : Int) (w : World) :
    Calls Tryz.prog 54 #[.int .i64 p, .int .i64 least] w (fun e w' => e = .returned (.bool (okX p least)) ∧ w = w') := by
  unfold okX
  by_cases q1 : least ≤ p
  · have b1 : decide (least ≤ p) = true := decide_eq_true q1
    rw [b1, Bool.true_and]
    go_enter Tryz.func54, Tryz.ntmps54
    go_wp2_with fail
    go_ret
    exact ⟨rfl, rfl⟩
  · have b1 : decide (least ≤ p) = false := decide_eq_false q1
    rw [b1, Bool.false_and]
    go_enter Tryz.func54, Tryz.ntmps54
    go_wp2_with fail
    go_ret
    exact ⟨rfl, rfl⟩
set_option maxHeartbeats 8000000 in
theorem xpart_any (Y : Int) (p k : Nat) (vx : Value) (w : World) (hx : IsD w vx (mkM Y (-(p : Int))) (mkE Y (-(p : Int)))) (hY : AbP Y p) (hp : p ≤ 700) (hk : 1 ≤ k) (hk2 : k ≤ 1000000) (hT : Tab w) :
    Calls Tryz.prog 168 #[vx, .int .i64 (k : Int), .int .i64 (p : Int)] w (RetD8 w (mkM (Y / (k : Int)) (-(p : Int))) (mkE (Y / (k : Int)) (-(p : Int)))) := by
  obtain ⟨A, c, rfl, _, hn⟩ := hx.form
  have L0 := (Lq.mk0 w).n hn
  obtain ⟨a1, a2, a3, a4, a5⟩ := np hY (by omega) (show p ≤ 3000 by omega)
  obtain ⟨s1, s2, s3⟩ := np_same a4 (by omega) (by omega)
  have hZ : AbP (Y / (k : Int)) p := Nat.le_trans (Int.natAbs_ediv_le_natAbs _ _) hY
  obtain ⟨b1, b2, b3, b4, b5⟩ := np hZ (by omega) (show p ≤ 3000 by omega)
  obtain ⟨r1, r2, r3⟩ := np_same b4 (by omega) (by omega)
  have hkb : AbP (k : Int) 20 := by
    have e : (2 : Nat) ^ 20 = 1048576 := by decide
    unfold AbP
    rw [e]
    omega
  obtain ⟨k1, _, k3, k4, _, _⟩ := nf hkb (by omega)
  have k2 : zl (mkM (k : Int) 0) ≤ 1 := Nat.le_trans (zl_mk _ _) (Nat.le_trans hkb.zl (by omega))
  have kdv : Dv (mkM (k : Int) 0) (mkE (k : Int) 0) := mk_ok k1
  have k5 : mkE (k : Int) 0 ≤ 100 := by rcases mkE_at k1 hkb.zl with e | e <;> omega
  have g1 := fun x W h (hW : Below w.heap.size w W) => dshift_any (mkM Y (-(p : Int))) (mkE Y (-(p : Int))) 0 x W h (by omega) (by omega) (by omega) (hT.mono hW)
  rw [s1, s2, s3] at g1
  have g2 := fun x W h => i10point_any (mkM Y (-(p : Int))) (mkE Y (-(p : Int))) x W h (by omega) (by omega) a4
  have g3 := fun W (hW : Below w.heap.size w W) => dof_any (k : Int) W (by omega) (by omega) (hT.mono hW)
  have g4 := fun x W h => i10point_any (mkM (k : Int) 0) (mkE (k : Int) 0) x W h (by omega) (by omega) kdv
  obtain ⟨q1, q2, q3⟩ := np_div hY hp hk hk2
  have g5 := fun x y W h j (hW : Below w.heap.size w W) => adiv_pos (mkM Y (-(p : Int))) (mkE Y (-(p : Int))) (mkM Y (-(p : Int))) (mkE Y (-(p : Int))) (mkM (k : Int) 0) (mkE (k : Int) 0) (mkM (k : Int) 0) (mkE (k : Int) 0) (p : Int) x y W h j (by omega) (by omega) (by omega) (by omega) (by omega) (by omega) (by omega) (by omega) (by rw [dcm_self]; omega) (by rw [dcm_self]; omega) (by omega) (by omega) (hT.mono hW) q1 rfl (by rw [q2]; omega) (by rw [q2]; omega)
  simp only [q3] at g5
  have g6 := fun x W h (hW : Below w.heap.size w W) => dshift_any (mkM (Y / (k : Int)) (-(p : Int))) (mkE (Y / (k : Int)) (-(p : Int))) 0 x W h (by omega) (by omega) (by omega) (hT.mono hW)
  rw [r1, r2, r3] at g6
  have w1 : IntKind.i64.wrap ((p : Int) - 4096) = (p : Int) - 4096 := by rw [IntKind.wrap_i64]; omega
  have w2 : max ((p : Int) - 4096) 0 = 0 := by omega
  have w3 : IntKind.i64.wrap (p : Int) = (p : Int) := by rw [IntKind.wrap_i64]; omega
  clear q1 q2 q3 a1 a2 a3 a4 a5 s1 s2 s3 b1 b2 b3 b4 b5 r1 r2 r3 k1 k2 k3 k4 k5 kdv hkb hZ hY hT hx
  generalize mkM (Y / (k : Int)) (-(p : Int)) = Z at *
  generalize mkE (Y / (k : Int)) (-(p : Int)) = Q at *
  generalize upM (dq Y (-(p : Int)) / (k : Rat)) (p : Int) = U at *
  generalize upE (dq Y (-(p : Int)) / (k : Rat)) (p : Int) = V at *
  generalize mkM Y (-(p : Int)) = M at *
  generalize mkE Y (-(p : Int)) = E at *
  generalize mkM (k : Int) 0 = K at *
  generalize mkE (k : Int) 0 = F at *
  have G1 := Lib.hid g1
  have G2 := Lib.hid g2
  have G3 := Lib.hid g3
  have G4 := Lib.hid g4
  have G5 := Lib.hid g5
  have G6 := Lib.hid g6
  clear g1 g2 g3 g4 g5 g6 hk hk2
  go_enter Tryz.func168, Tryz.ntmps168
  have L := ((L0.varD (w.heap.size) (by simp) (ng M) A (zl M) c E).varD (w.heap.size + 1) (by simp) false none 0 0 0)
  have c10 := L.tl.b0.c30
  have c11 := L.tl.b0.c31
  have c12 := L.tl.b0.c32
  (try go_wp2_with fail)
  refine (G1.out _ _ (isD_n (m := M) (e := E) (s := .slice A (zl M) c) (L.getN (by simp))) L.below).mono ?_
  rintro e w1 ⟨v9, rfl, iz, be⟩
  clear c10 c11 c12
  obtain ⟨A1, c1, rfl, _, in9⟩ := iz.form
  replace L := (L.step be).n in9
  clear be iz in9
  have hl9 := L.b0.lt
  replace L := L.varD w1.heap.size rfl (ng M) A1 (zl M) c1 E
  have c00 := L.b0.c30
  have c01 := L.b0.c31
  have c02 := L.b0.c32
  go_wp2_with fail
  clear c00 c01 c02
  obtain ⟨g1, hg1⟩ : ∃ g9, w1.heap.size = g9 := ⟨_, rfl⟩
  rw [hg1] at L hl9 ⊢
  clear hg1
  have hl_g1 := hl9
  clear hl9
  refine (G2.out _ _ (isD_n (m := M) (e := E) (s := .slice A1 (zl M) c1) (L.getN (by simp)))).mono ?_
  rintro e w2 ⟨v9, rfl, ii, be⟩
  obtain ⟨A2, c2, B2, d2, rfl, ia, ib⟩ := ii.form
  replace L := ((L.step be).n ib).n ia
  clear be ii ia ib
  (try go_wp2_with fail)
  refine (G3.out _ L.below).mono ?_
  rintro e w3 ⟨v9, rfl, iz, be⟩
  obtain ⟨A3, c3, rfl, _, in9⟩ := iz.form
  replace L := (L.step be).n in9
  clear be iz in9
  (try go_wp2_with fail)
  refine (G4.out _ _ (isD_n (m := K) (e := F) (s := .slice A3 (zl K) c3) (L.getN (by simp)))).mono ?_
  rintro e w4 ⟨v9, rfl, ii, be⟩
  obtain ⟨A4, c4, B4, d4, rfl, ia, ib⟩ := ii.form
  replace L := ((L.step be).n ib).n ia
  clear be ii ia ib
  (try go_wp2_with fail)
  refine (G5.out _ _ _ (isI_n (m := M) (e := E) (n := M) (f := E) (s := .slice A2 (zl M) c2) (t := .slice B2 (zl M) d2) (L.getN (by simp)) (L.getN (by simp))) (isI_n (m := K) (e := F) (n := K) (f := F) (s := .slice A4 (zl K) c4) (t := .slice B4 (zl K) d4) (L.getN (by simp)) (L.getN (by simp))) L.below).mono ?_
  rintro e w5 ⟨v9, rfl, ii, be⟩
  obtain ⟨A5, c5, B5, d5, rfl, ia, ib⟩ := ii.form
  replace L := ((L.step be).n ib).n ia
  clear be ii ia ib
  have hl9 := L.b0.lt
  replace L := L.varI w5.heap.size rfl (ng Z) A5 (zl Z) c5 Q (ng U) B5 (zl U) d5 V
  have c00 := L.b0.c60
  have c01 := L.b0.c61
  have c02 := L.b0.c62
  have c03 := L.b0.c63
  have c04 := L.b0.c64
  have c05 := L.b0.c65
  go_wp2_with fail
  clear c00 c01 c02 c03 c04 c05
  obtain ⟨g2, hg2⟩ : ∃ g9, w5.heap.size = g9 := ⟨_, rfl⟩
  rw [hg2] at L hl9 ⊢
  clear hg2
  have hl_g2 := hl9
  clear hl9
  refine (G6.out _ _ (isD_n (m := Z) (e := Q) (s := .slice A5 (zl Z) c5) (L.getN (by simp))) L.below).mono ?_
  rintro e w6 ⟨v9, rfl, iz, be⟩
  obtain ⟨A6, c6, rfl, _, in9⟩ := iz.form
  replace L := (L.step be).n in9
  clear be iz in9
  have hl9 := L.b0.lt
  have L9 := L.subx (ns' := [(.slice A6 (zl Z) c6, Z.natAbs)]) (bs' := [(w.heap.size + 1, 26, #[.bool false, .slice none 0 0, .int .i64 0])]) (by simp) (by simp)
  clear L
  have L := L9
  clear L9
  have n1 : w.heap.size + 1 ≠ w6.heap.size := by omega
  have c00 := L.b0.c30
  have f00 := L.b0.fr 0
  have c01 := L.b0.c31
  have f01 := L.b0.fr 1
  have c02 := L.b0.c32
  have f02 := L.b0.fr 2
  have LN := L.varD w6.heap.size rfl (ng Z) A6 (zl Z) c6 Q
  have v0 := LN.b0.c30
  have v1 := LN.b0.c31
  have v2 := LN.b0.c32
  have v3 := LN.tl.b0.c30
  have v4 := LN.tl.b0.c31
  have v5 := LN.tl.b0.c32
  have v6 := LN.tl.b0.fr 0
  have v7 := LN.tl.b0.fr 1
  have v8 := LN.tl.b0.fr 2
  go_wp2_with fail
  clear c00 f00 c01 f01 c02 f02
  clear v0 v1 v2 v3 v4 v5 v6 v7 v8
  clear L
  have L := LN.swap
  clear LN
  have LP := L.putD (by omega) (by first | (simp; done) | (simp; omega)) (ng Z) A6 (zl Z) c6 (Q)
  have k0 := LP.b0.c30
  have k1 := LP.b0.c31
  have k2 := LP.b0.c32
  unfold put3 at k0 k1 k2
  exact bodyPost_ret (v := .agg #[.bool (ng Z), .slice A6 (zl Z) c6, .int .i64 (Q)]) (by simp [results, Tryz.results168, go_sem, k0, k1, k2]) rfl ⟨_, rfl, isD_n (LP.getN (by simp)), LP.below⟩
theorem plainG (b : Bool) (A : Option Addr) (n c : Nat) (e p : Int) : Plain #[.bool b, .slice A n c, .int .i64 e, .int .i64 p] := fun j x => by
  match j with
  | 0 => simp
  | 1 => simp
  | 2 => simp
  | 3 => simp
  | j + 4 => simp
theorem Lq.varG {w0 w : World} {ns : List (Value × Nat)} {zs : List (Value × Int)} {qs : List (Value × Int × Nat)} {bs : List (Nat × TypeId × Array Value)} (h : Lq w0 w ns zs qs bs) (g : Nat) (hg : g = w.heap.size) (b : Bool) (A : Option Addr) (n c : Nat) (e p : Int) : Lq w0 (w.alloc (.cells #[.bool b, .slice A n c, .int .i64 e, .int .i64 p] 120)) ns zs qs ((g, 120, #[.bool b, .slice A n c, .int .i64 e, .int .i64 p]) :: bs) := h.var g hg _ _ (plainG _ _ _ _ _ _)

set_option maxHeartbeats 8000000 in
theorem xnext_any (X T : Int) (p k : Nat) (A : Option Addr) (c : Nat) (vt : Value) (w : World) (hx : IsN w (.slice A (zl (mkM X (-(p : Int)))) c) (mkM X (-(p : Int))).natAbs) (ht : IsD w vt (mkM T (-(p : Int))) (mkE T (-(p : Int)))) (hX : AbP X p) (hTa : AbP T p) (hTX : AbP (T * X / 2 ^ p) p) (hp : p ≤ 700) (hk : 1 ≤ k) (hk2 : k ≤ 1000000) (hT : Tab w) :
    Calls Tryz.prog 111 #[.agg #[.bool (ng (mkM X (-(p : Int)))), .slice A (zl (mkM X (-(p : Int)))) c, .int .i64 (mkE X (-(p : Int))), .int .i64 (p : Int)], vt, .int .i64 (k : Int)] w (RetD8 w (mkM (pwT X p k T) (-(p : Int))) (mkE (pwT X p k T) (-(p : Int)))) := by
  obtain ⟨A2, c2, rfl, _, hn⟩ := ht.form
  have L0 := ((Lq.mk0 w).n hn).n hx
  unfold pwT
  obtain ⟨M4, hM4⟩ : ∃ z, mkM (mkM T (-(p : Int)) * mkM X (-(p : Int))) (mkE T (-(p : Int)) + mkE X (-(p : Int))) = z := ⟨_, rfl⟩
  obtain ⟨E4, hE4⟩ : ∃ z, mkE (mkM T (-(p : Int)) * mkM X (-(p : Int))) (mkE T (-(p : Int)) + mkE X (-(p : Int))) = z := ⟨_, rfl⟩
  obtain ⟨a1, a2, a3, a4, a5⟩ := np hTa (by omega) (show p ≤ 3000 by omega)
  obtain ⟨b1, b2, b3, b4, b5⟩ := np hX (by omega) (show p ≤ 3000 by omega)
  obtain ⟨m1, m2, m3, m4, m5, m6⟩ := np_mul hTa hX (by omega) (by omega) (show p ≤ 1400 by omega) M4 E4 hM4 hE4
  have g1 := fun x y W h j (hW : Below w.heap.size w W) => dmul_any (mkM T (-(p : Int))) (mkE T (-(p : Int))) (mkM X (-(p : Int))) (mkE X (-(p : Int))) x y W h j (by omega) (by omega) (by omega) (by omega) (hT.mono hW)
  rw [hM4, hE4, m1] at g1
  have g2 := fun x W h (hW : Below w.heap.size w W) => gfloor_any M4 E4 (p : Int) x W h (by omega) (by omega) (by omega) (by omega) (hT.mono hW)
  rw [m4, m5, m6] at g2
  have g3 := fun x W h (hW : Below w.heap.size w W) => xpart_any (T * X / 2 ^ p) p k x W h hTX hp hk hk2 (hT.mono hW)
  clear a1 a2 a3 a4 a5 b1 b2 b3 b4 b5 m1 m2 m3 m4 m5 m6 hM4 hE4 hX hTa hTX hp hk hk2 ht hx hn hT
  generalize mkM (T * X / 2 ^ p / (k : Int)) (-(p : Int)) = Z at *
  generalize mkE (T * X / 2 ^ p / (k : Int)) (-(p : Int)) = Q at *
  generalize mkM (T * X / 2 ^ p) (-(p : Int)) = Mf at *
  generalize mkE (T * X / 2 ^ p) (-(p : Int)) = Ef at *
  generalize mkM X (-(p : Int)) = Mx at *
  generalize mkE X (-(p : Int)) = Ex at *
  generalize mkM T (-(p : Int)) = M at *
  generalize mkE T (-(p : Int)) = E at *
  have G1 := Lib.hid g1
  have G2 := Lib.hid g2
  have G3 := Lib.hid g3
  clear g1 g2 g3
  go_enter Tryz.func111, Tryz.ntmps111
  have L := (((L0.varG (w.heap.size) (by simp) (ng Mx) A (zl Mx) c Ex (p : Int)).varD (w.heap.size + 1) (by simp) (ng M) A2 (zl M) c2 E).varD (w.heap.size + 2) (by simp) false none 0 0 0)
  have c10 := L.tl.b0.c30
  have c11 := L.tl.b0.c31
  have c12 := L.tl.b0.c32
  have c20 := L.tl.tl.b0.c40
  have c21 := L.tl.tl.b0.c41
  have c22 := L.tl.tl.b0.c42
  have c23 := L.tl.tl.b0.c43
  (try go_wp2_with fail)
  refine (G1.out _ _ _ (isD_n (m := M) (e := E) (s := .slice A2 (zl M) c2) (L.getN (by simp))) (isD_n (m := Mx) (e := Ex) (s := .slice A (zl Mx) c) (L.getN (by simp))) L.below).mono ?_
  rintro e w1 ⟨v9, rfl, iz, be⟩
  clear c10 c11 c12 c20 c21 c22 c23
  obtain ⟨A4, c4, rfl, _, in9⟩ := iz.form
  replace L := (L.step be).n in9
  clear be iz in9
  have hl9 := L.b0.lt
  replace L := L.varD w1.heap.size rfl (ng M4) A4 (zl M4) c4 E4
  have c00 := L.b0.c30
  have c01 := L.b0.c31
  have c02 := L.b0.c32
  have c30 := L.tl.tl.tl.b0.c40
  have c31 := L.tl.tl.tl.b0.c41
  have c32 := L.tl.tl.tl.b0.c42
  have c33 := L.tl.tl.tl.b0.c43
  go_wp2_with fail
  clear c00 c01 c02 c30 c31 c32 c33
  obtain ⟨g1, hg1⟩ : ∃ g9, w1.heap.size = g9 := ⟨_, rfl⟩
  rw [hg1] at L hl9 ⊢
  clear hg1
  have hl_g1 := hl9
  clear hl9
  refine (G2.out _ _ (isD_n (m := M4) (e := E4) (s := .slice A4 (zl M4) c4) (L.getN (by simp))) L.below).mono ?_
  rintro e w2 ⟨v9, rfl, iz, be⟩
  obtain ⟨A5, c5, rfl, _, in9⟩ := iz.form
  replace L := (L.step be).n in9
  clear be iz in9
  have c00 := L.b0.c30
  have f00 := L.b0.fr 0
  have c01 := L.b0.c31
  have f01 := L.b0.fr 1
  have c02 := L.b0.c32
  have f02 := L.b0.fr 2
  have c30 := L.tl.tl.tl.b0.c40
  have c31 := L.tl.tl.tl.b0.c41
  have c32 := L.tl.tl.tl.b0.c42
  have c33 := L.tl.tl.tl.b0.c43
  have P := L.putD (by omega) (by first | (simp; done) | (simp; omega)) (ng Mf) A5 (zl Mf) c5 Ef
  have p0 := P.b0.c30
  have p1 := P.b0.c31
  have p2 := P.b0.c32
  have p3 := P.tl.tl.tl.b0.c43
  unfold put3 at p0 p1 p2 p3 P
  go_wp2_with fail
  replace L := P
  clear P p0 p1 p2 p3
  clear c00 f00 c01 f01 c02 f02 c30 c31 c32 c33
  refine (G3.out _ _ (isD_n (m := Mf) (e := Ef) (s := .slice A5 (zl Mf) c5) (L.getN (by simp))) L.below).mono ?_
  rintro e w3 ⟨v9, rfl, iz, be⟩
  obtain ⟨A6, c6, rfl, _, in9⟩ := iz.form
  replace L := (L.step be).n in9
  clear be iz in9
  have L9 := L.subx (ns' := [(.slice A6 (zl Z) c6, Z.natAbs)]) (bs' := [(w.heap.size + 2, 26, #[.bool false, .slice none 0 0, .int .i64 0])]) (by simp) (by simp)
  clear L
  have L := L9
  clear L9
  have c00 := L.b0.c30
  have f00 := L.b0.fr 0
  have c01 := L.b0.c31
  have f01 := L.b0.fr 1
  have c02 := L.b0.c32
  have f02 := L.b0.fr 2
  go_wp2_with fail
  clear c00 f00 c01 f01 c02 f02
  have LP := L.putD (by omega) (by first | (simp; done) | (simp; omega)) (ng Z) A6 (zl Z) c6 (Q)
  have k0 := LP.b0.c30
  have k1 := LP.b0.c31
  have k2 := LP.b0.c32
  unfold put3 at k0 k1 k2
  exact bodyPost_ret (v := .agg #[.bool (ng Z), .slice A6 (zl Z) c6, .int .i64 (Q)]) (by simp [results, Tryz.results111, go_sem, k0, k1, k2]) rfl ⟨_, rfl, isD_n (LP.getN (by simp)), LP.below⟩

theorem np_one {p : Nat} (hp : p ≤ 3000) : mkM 1 0 = mkM (2 ^ p) (-(p : Int)) ∧ mkE 1 0 = mkE (2 ^ p) (-(p : Int)) := by
  obtain ⟨a1, _⟩ := nf (t := 1) (v := 0) (by unfold AbP; decide) (by omega)
  have e : ((2 : Int) ^ p).natAbs = 2 ^ p := by rw [Int.natAbs_pow]; rfl
  obtain ⟨b1, _⟩ := np (T := 2 ^ p) (p := p) (j := p) (Nat.le_of_eq e) hp hp
  exact mk_uniq a1 b1 (by rw [dq_onep]; rfl)
/-- What the sum returns. -/
def RetSm (w : World) (X : Int) (p : Nat) (en : Ending) (w' : World) : Prop := ∃ S k, ExR X p k 0 S ∧ RetD8 w (mkM S (-(p : Int))) (mkE S (-(p : Int))) en w'
theorem ExR.sz {X : Int} {p k : Nat} {T S : Int} (h : ExR X p k T S) (hp : p ≤ 700) : AbP T p ∧ AbP S (p + 6) ∧ k ≤ 60 := by
  have h1 := h.fk
  have h2 := h.sa
  refine ⟨h.ta, ?_, by omega⟩
  unfold AbP
  rw [Nat.pow_add, show (2 : Nat) ^ 6 = 64 by decide, Nat.mul_comm]
  exact Nat.le_trans h2 (Nat.mul_le_mul_right _ (by omega))

set_option maxHeartbeats 16000000 in
theorem xsum_any (F : Nat) (hen : ∀ args w, (callFunc F args).run Tryz.prog w = .ok (.enter F args) w) (X : Int) (p : Nat) (recv : Value) (w : World) (hX : X.natAbs * 2 ^ 32 ≤ 2 ^ p) (hp : p ≤ 700) (hT : Tab w) (hf : ∀ (k : Nat) (T : Int) vt W, IsD W vt (mkM T (-(p : Int))) (mkE T (-(p : Int))) → AbP T p → 1 ≤ k → k ≤ 1000 → Below w.heap.size w W → Calls Tryz.prog F #[recv, vt, .int .i64 (k : Int)] W (RetD8 W (mkM (pwT X p k T) (-(p : Int))) (mkE (pwT X p k T) (-(p : Int))))) :
    Calls Tryz.prog 110 #[.func (.func F) #[recv] #[]] w (RetSm w X p) := by
  have HT := Lib.hid (fun W (hW : Below w.heap.size w W) => hT.mono hW)
  have g1 := fun W (hW : Below w.heap.size w W) => dof_any 1 W (by omega) (by omega) (hT.mono hW)
  obtain ⟨o1, o2⟩ := np_one (p := p) (by omega)
  rw [o1, o2] at g1
  have HR0 := ExR.first X p
  obtain ⟨P, hP⟩ : ∃ z, (2 : Int) ^ p = z := ⟨_, rfl⟩
  rw [hP] at g1 HR0
  obtain ⟨M, hM⟩ : ∃ z, mkM P (-(p : Int)) = z := ⟨_, rfl⟩
  obtain ⟨E, hE⟩ : ∃ z, mkE P (-(p : Int)) = z := ⟨_, rfl⟩
  rw [hM, hE] at g1
  have HR := Lib.hid (And.intro HR0 (And.intro (And.intro hM hE) (And.intro hM hE)))
  have G1 := Lib.hid g1
  have HF := Lib.hid hf
  have HX := Lib.hid hX
  have HV := Lib.hid hp
  clear g1 hf hX hp hT HR0 hM hE hP o1 o2
  go_enter Tryz.func110, Tryz.ntmps110
  have L := ((Lq.mk0 w).varD (w.heap.size) (by simp) false none 0 0 0)
  (try go_wp2_with fail)
  refine (G1.out _ L.below).mono ?_
  rintro e w1 ⟨v9, rfl, iz, be⟩
  obtain ⟨A1, c1, rfl, _, in9⟩ := iz.form
  replace L := (L.step be).n in9
  clear be iz in9
  have hl9 := L.b0.lt
  replace L := L.varD w1.heap.size rfl (ng M) A1 (zl M) c1 E
  have c00 := L.b0.c30
  have c01 := L.b0.c31
  have c02 := L.b0.c32
  replace L := L.varD (w1.heap.size + 1) (by simp) (ng M) A1 (zl M) c1 E
  have d00 := L.b0.c30
  have d01 := L.b0.c31
  have d02 := L.b0.c32
  go_wp2_with fail
  clear c00 c01 c02 d00 d01 d02 G1
  obtain ⟨gt, hgt⟩ : ∃ g9, w1.heap.size = g9 := ⟨_, rfl⟩
  rw [hgt] at L hl9 ⊢
  clear hgt
  go_loopw [5] (fun i wr => ∃ (k : Nat) (T S M E N K : Int) (A1 A2 : Option Addr) (c1 c2 : Nat), i = .int .i64 (k : Int) ∧ Lq w wr [(.slice A1 (zl M) c1, M.natAbs), (.slice A2 (zl N) c2, N.natAbs)] [] [] [(gt + 1, 26, #[.bool (ng N), .slice A2 (zl N) c2, .int .i64 K]), (gt, 26, #[.bool (ng M), .slice A1 (zl M) c1, .int .i64 E]), (w.heap.size, 26, #[.bool false, .slice none 0 0, .int .i64 0])] ∧ Hid (ExR X p k T S ∧ (mkM T (-(p : Int)) = M ∧ mkE T (-(p : Int)) = E) ∧ mkM S (-(p : Int)) = N ∧ mkE S (-(p : Int)) = K)) (fun i _ => 100 - (intOf i).toNat)
  case atStart => exact ⟨1, P, P, M, E, M, E, A1, A1, c1, c1, by go_num, L.subx (by simp) (by simp), HR⟩
  case round =>
    clear L HR
    obtain ⟨k, T, S, M, E, N, K, A1, A2, c1, c2, rfl, L, HR⟩ := hrel
    obtain ⟨hI, ⟨hM, hE⟩, hN, hK⟩ := HR.out
    have hp := HV.out
    obtain ⟨zt, zs, hk⟩ := hI.sz hp
    obtain ⟨a1, a2, a3, a4, a5⟩ := np zt (by omega) (show p ≤ 3000 by omega)
    have r5 := np_sign zt (by omega) (show p ≤ 3000 by omega)
    have g2 := fun x W h => dsign_any (mkM T (-(p : Int))) (mkE T (-(p : Int))) x W h (by omega)
    rw [hM, hE] at g2
    rw [hM] at r5
    obtain ⟨sg9, hsg9⟩ : ∃ z, cmpI M 0 = z := ⟨_, rfl⟩
    rw [hsg9] at g2 r5
    have G2 := Lib.hid g2
    have HI := Lib.hid hI
    have HZ := Lib.hid (And.intro zt zs)
    clear g2 a1 a2 a3 a4 a5 hsg9 zt zs hp hI
    have hl0 := L.tl.b0.lt
    replace L := L.swap
    have cel00 := L.b0.c30
    have cel01 := L.b0.c31
    have cel02 := L.b0.c32
    (try go_wp2_with fail)
    refine (G2.out _ _ (isD_n (m := M) (e := E) (s := .slice A1 (zl M) c1) (L.getN (by simp)))).mono ?_
    rintro e w11 ⟨rfl, be⟩
    clear cel00 cel01 cel02
    replace L := L.step be
    clear be
    by_cases h0 : T = 0
    · subst h0
      have r6 : (sg9 != 0) = false := r5.trans (by simp)
      have hq := HI.out
      clear r5 HI HR HF HX HZ hM hE
      have L9 := L.subx (ns' := [(.slice A2 (zl N) c2, N.natAbs)]) (bs' := [(w.heap.size, 26, #[.bool false, .slice none 0 0, .int .i64 0]), (gt + 1, 26, #[.bool (ng N), .slice A2 (zl N) c2, .int .i64 K])]) (by simp) (by simp)
      clear L
      have L := L9
      clear L9
      have cel00 := L.b0.c30
      have f00 := L.b0.fr 0
      have cel01 := L.b0.c31
      have f01 := L.b0.fr 1
      have cel02 := L.b0.c32
      have f02 := L.b0.fr 2
      have cel10 := L.tl.b0.c30
      have cel11 := L.tl.b0.c31
      have cel12 := L.tl.b0.c32
      (try go_wp2_with fail)
      clear cel00 f00 cel01 f01 cel02 f02 cel10 cel11 cel12
      subst hN hK
      have LP := L.putD (by omega) (by first | (simp; done) | (simp; omega)) (ng (mkM S (-(p : Int)))) A2 (zl (mkM S (-(p : Int)))) c2 (mkE S (-(p : Int)))
      have k0 := LP.b0.c30
      have k1 := LP.b0.c31
      have k2 := LP.b0.c32
      unfold put3 at k0 k1 k2
      exact bodyPost_ret (v := .agg #[.bool (ng (mkM S (-(p : Int)))), .slice A2 (zl (mkM S (-(p : Int)))) c2, .int .i64 (mkE S (-(p : Int)))]) (by simp [results, Tryz.results110, go_sem, k0, k1, k2]) rfl ⟨S, k, hq, _, rfl, isD_n (LP.getN (by simp)), LP.below⟩
    · have r6 : (sg9 != 0) = true := r5.trans (decide_eq_true h0)
      have hI := HI.out
      have hX := HX.out
      have hp := HV.out
      obtain ⟨zt, zs⟩ := HZ.out
      have hI2 := hI.step hX h0
      obtain ⟨zt2, zs2, hk2⟩ := hI2.sz hp
      have g3 := fun vt W h1 h2 => HF.out k T vt W h1 zt hI.k1 (by omega) h2
      have zu := zt2.up (show p ≤ p + 6 by omega)
      obtain ⟨_, b2, b3, _, _⟩ := np zs (by omega) (show p ≤ 3000 by omega)
      obtain ⟨_, d2, d3, _, _⟩ := np zu (by omega) (show p ≤ 3000 by omega)
      obtain ⟨a1, a2, a3⟩ := np_add zs zu (by omega) (show p ≤ 2900 by omega)
      obtain ⟨T2, hT2⟩ : ∃ z, pwT X p k T = z := ⟨_, rfl⟩
      rw [hT2] at g3 a1 a2 a3 d2 d3 hI2
      have g4 := fun x y W h j (hW : Below w.heap.size w W) => dadd_any (mkM S (-(p : Int))) (mkE S (-(p : Int))) (mkM T2 (-(p : Int))) (mkE T2 (-(p : Int))) x y W h j (by omega) (by omega) (by omega) (by omega) (HT.out W hW)
      rw [a1, a2, a3] at g4
      obtain ⟨S2, hS2⟩ : ∃ z, S + T2 = z := ⟨_, rfl⟩
      rw [hS2] at g4 hI2
      rw [hN, hK] at g4
      rw [hM, hE] at g3
      obtain ⟨M2, hM2⟩ : ∃ z, mkM T2 (-(p : Int)) = z := ⟨_, rfl⟩
      obtain ⟨E2, hE2⟩ : ∃ z, mkE T2 (-(p : Int)) = z := ⟨_, rfl⟩
      obtain ⟨N2, hN2⟩ : ∃ z, mkM S2 (-(p : Int)) = z := ⟨_, rfl⟩
      obtain ⟨K2, hK2⟩ : ∃ z, mkE S2 (-(p : Int)) = z := ⟨_, rfl⟩
      rw [hM2, hE2] at g3 g4
      rw [hN2, hK2] at g4
      have G3 := Lib.hid g3
      have G4 := Lib.hid g4
      have HQ := Lib.hid (And.intro hI2 (And.intro (And.intro hM2 hE2) (And.intro hN2 hK2)))
      have w3 : IntKind.i64.wrap ((k : Int) + 1) = (k : Int) + 1 := by rw [IntKind.wrap_i64]; omega
      clear g3 g4 hI2 hM2 hE2 hN2 hK2 hS2 hT2 a1 a2 a3 b2 b3 d2 d3 zt2 zs2 zu zt zs hI hX hp r5 HR HI HZ hM hE hN hK hk2
      have cel00 := L.b0.c30
      have f00 := L.b0.fr 0
      have cel01 := L.b0.c31
      have f01 := L.b0.fr 1
      have cel02 := L.b0.c32
      have f02 := L.b0.fr 2
      (try go_wp2_with fail)
      refine (G3.out _ _ (isD_n (m := M) (e := E) (s := .slice A1 (zl M) c1) (L.getN (by simp))) L.below).mono ?_
      rintro e w31 ⟨v9, rfl, iz, be⟩
      clear cel00 f00 cel01 f01 cel02 f02
      obtain ⟨A3, c3, rfl, _, in9⟩ := iz.form
      replace L := (L.step be).n in9
      clear be iz in9
      have cel00 := L.b0.c30
      have f00 := L.b0.fr 0
      have cel01 := L.b0.c31
      have f01 := L.b0.fr 1
      have cel02 := L.b0.c32
      have f02 := L.b0.fr 2
      have cel10 := L.tl.b0.c30
      have cel11 := L.tl.b0.c31
      have cel12 := L.tl.b0.c32
      have P := L.putD (by omega) (by simp; omega) (ng M2) A3 (zl M2) c3 E2
      have p0 := P.b0.c30
      have p1 := P.b0.c31
      have p2 := P.b0.c32
      have p3 := P.tl.b0.c30
      have p4 := P.tl.b0.c31
      have p5 := P.tl.b0.c32
      unfold put3 at p0 p1 p2 p3 p4 p5 P
      go_wp2_with fail
      replace L := P
      clear P p0 p1 p2 p3 p4 p5
      clear cel00 f00 cel01 f01 cel02 f02 cel10 cel11 cel12
      refine (G4.out _ _ _ (isD_n (m := N) (e := K) (s := .slice A2 (zl N) c2) (L.getN (by simp))) (isD_n (m := M2) (e := E2) (s := .slice A3 (zl M2) c3) (L.getN (by simp))) L.below).mono ?_
      rintro e w32 ⟨v9, rfl, iz, be⟩
      obtain ⟨A4, c4, rfl, _, in9⟩ := iz.form
      replace L := (L.step be).n in9
      clear be iz in9
      replace L := L.swap
      have cel00 := L.b0.c30
      have f00 := L.b0.fr 0
      have cel01 := L.b0.c31
      have f01 := L.b0.fr 1
      have cel02 := L.b0.c32
      have f02 := L.b0.fr 2
      have P := L.putD (by omega) (by simp; omega) (ng N2) A4 (zl N2) c4 K2
      unfold put3 at P
      go_wp2_with fail
      go_roundw
      case rel => exact ⟨k + 1, T2, S2, M2, E2, N2, K2, A3, A4, c3, c4, by go_num, P.subx (by simp) (by simp), HQ⟩
      case measure => simp [intOf]; omega

set_option maxHeartbeats 8000000 in
theorem xwhole_any (n : Int) (vx : Value) (w : World) (hx : IsD w vx (mkM n 0) (mkE n 0)) (hn : -2000000000 ≤ n ∧ n ≤ 2000000000) :
    Calls Tryz.prog 92 #[vx] w (RetI w n) := by
  have hb : AbP n 31 := by
    have e : (2 : Nat) ^ 31 = 2147483648 := by decide
    unfold AbP
    rw [e]
    omega
  obtain ⟨a1, _, a3, a4, a5, _⟩ := nf hb (by omega)
  have bz := nf_zero hb (by omega)
  have a2 : zl (mkM n 0) ≤ 1 := Nat.le_trans (zl_mk _ _) (Nat.le_trans hb.zl (by omega))
  have g1 := fun x W h => dsign_any (mkM n 0) (mkE n 0) x W h (by omega)
  obtain ⟨A, c, rfl, _, hs⟩ := hx.form
  have L0 := (Lq.mk0 w).n hs
  obtain ⟨M, hM⟩ : ∃ z, mkM n 0 = z := ⟨_, rfl⟩
  obtain ⟨k, hk⟩ : ∃ k : Nat, mkE n 0 = (k : Int) := ⟨(mkE n 0).toNat, by omega⟩
  rw [hM, hk] at g1 a5
  rw [hM] at bz a2 hs L0 ⊢
  rw [hk, show ((k : Int)).toNat = k by omega] at *
  obtain ⟨sg9, hsg9⟩ : ∃ z, cmpI M 0 = z := ⟨_, rfl⟩
  rw [hsg9] at g1
  have G1 := Lib.hid g1
  clear g1 a1 a3 a4 hx hk
  by_cases h0 : n = 0
  · subst h0
    have r6 : (sg9 == 0) = true := by rw [← hsg9, bz.2 rfl]; decide
    clear bz a2 a5 hb hs hsg9
    go_enter Tryz.func92, Tryz.ntmps92
    have L := (L0.varD (w.heap.size) (by simp) (ng M) A (zl M) c (k : Int))
    have c00 := L.b0.c30
    have c01 := L.b0.c31
    have c02 := L.b0.c32
    (try go_wp2_with fail)
    refine (G1.out _ _ (isD_n (m := M) (e := (k : Int)) (s := .slice A (zl M) c) (L.getN (by simp)))).mono ?_
    rintro e w1 ⟨rfl, be⟩
    clear c00 c01 c02
    replace L := L.step be
    clear be
    (try go_wp2_with fail)
    go_ret
    exact ⟨rfl, L.below⟩
  · have hM0 : M ≠ 0 := fun e => h0 (bz.1 e)
    have r6 : (sg9 == 0) = false := by
      rw [← hsg9]
      unfold cmpI
      (repeat' split) <;> first | rfl | omega
    have hz1 : zl M = 1 := by
      have : len M.natAbs ≠ 0 := fun e => by have := len_eq_zero e; omega
      have e : zl M = len M.natAbs := rfl
      omega
    obtain ⟨x, hx⟩ : ∃ x, M.natAbs = x := ⟨_, rfl⟩
    have hl1 : len x = 1 := by rw [← hx]; exact hz1
    have hx1 : x < 4294967296 := by
      have := lt_pow_len x
      rw [hl1] at this; unfold W32 at this; omega
    have hd := dig_of_len1 hl1
    obtain ⟨A', n', c', e9, hs'⟩ := hs
    rw [hx] at hs'
    rw [hz1] at e9 L0 ⊢
    injection e9 with e1 e2 e3
    subst e1 e2 e3
    obtain ⟨b, off, rfl, hbl, hc⟩ := hs'.place (by omega)
    have hc0 := hc 0 (by omega)
    rw [hd] at hc0
    simp only [nth, List.getD_cons_zero, Nat.add_zero] at hc0
    have hv : x * 2 ^ k = n.natAbs := by rw [← a5, Int.natAbs_mul, hx, Int.natAbs_pow]; rfl
    have hk31 : k ≤ 31 := by
      have h1 : 1 * 2 ^ k ≤ x * 2 ^ k := Nat.mul_le_mul_right _ (by omega)
      refine Nat.not_lt.1 fun hlt => ?_
      have h2 := Nat.pow_le_pow_right (n := 2) (by omega) hlt
      have e : (2 : Nat) ^ (31 + 1) = 4294967296 := by decide
      omega
    have hsg : ng M = decide (n < 0) := by
      have hp := pow2_pos k
      unfold ng
      congr 1
      refine propext ⟨fun h => ?_, fun h => ?_⟩
      · rw [← a5]
        exact Int.mul_neg_of_neg_of_pos h hp
      · refine Int.not_le.1 fun hle => ?_
        have := Int.mul_nonneg hle (Int.le_of_lt hp)
        omega
    have hxi : ((x : Nat) : Int) * 2 ^ k = (n.natAbs : Int) := by rw [← hv]; simp
    clear bz a2 a5 hb hsg9 hd hc hl1 hs' hx hz1
    rcases Int.lt_or_le n 0 with hneg | hpos
    · have hng : ng M = true := by rw [hsg, decide_eq_true hneg]
      have HN := Lib.hid hng
      clear hsg hng
      go_enter Tryz.func92, Tryz.ntmps92
      have L := (L0.varD (w.heap.size) (by simp) (ng M) (some ⟨b, off, none⟩) 1 c (k : Int))
      have c00 := L.b0.c30
      have c01 := L.b0.c31
      have c02 := L.b0.c32
      (try go_wp2_with fail)
      refine (G1.out _ _ (isD_n (m := M) (e := (k : Int)) (s := .slice (some ⟨b, off, none⟩) 1 c) (L.getN (by simp)))).mono ?_
      rintro e w1 ⟨rfl, be⟩
      clear c00 c01 c02
      replace L := L.step be
      clear be
      have c00 := L.b0.c30
      have c01 := L.b0.c31
      have c02 := L.b0.c32
      have hc1 := (L.below.cell (p := ⟨b, off, none⟩) hbl).trans hc0
      have hng := HN.out
      rw [hng] at c00
      have w1 : IntKind.i64.wrap ((x : Nat) : Int) = (x : Int) := by rw [IntKind.wrap_i64]; omega
      have w2 : IntKind.i64.wrap (n.natAbs : Int) = (n.natAbs : Int) := by rw [IntKind.wrap_i64]; omega
      have w3 : ¬ (k : Int) < 0 := by omega
      have w4 : IntKind.i64.wrap (-(n.natAbs : Int)) = -(n.natAbs : Int) := by rw [IntKind.wrap_i64]; omega
      (try go_wp2_with fail)
      go_quiet (fail)
      (try go_wp2_with fail)
      go_ret
      refine ⟨?_, belowN L.below _⟩
      show Ending.returned (.int .i64 (-(n.natAbs : Int))) = _
      rw [show -(n.natAbs : Int) = n by omega]
    · have hng : ng M = false := by rw [hsg, decide_eq_false (by omega)]
      have HN := Lib.hid hng
      clear hsg hng
      go_enter Tryz.func92, Tryz.ntmps92
      have L := (L0.varD (w.heap.size) (by simp) (ng M) (some ⟨b, off, none⟩) 1 c (k : Int))
      have c00 := L.b0.c30
      have c01 := L.b0.c31
      have c02 := L.b0.c32
      (try go_wp2_with fail)
      refine (G1.out _ _ (isD_n (m := M) (e := (k : Int)) (s := .slice (some ⟨b, off, none⟩) 1 c) (L.getN (by simp)))).mono ?_
      rintro e w1 ⟨rfl, be⟩
      clear c00 c01 c02
      replace L := L.step be
      clear be
      have c00 := L.b0.c30
      have c01 := L.b0.c31
      have c02 := L.b0.c32
      have hc1 := (L.below.cell (p := ⟨b, off, none⟩) hbl).trans hc0
      have hng := HN.out
      rw [hng] at c00
      have w1 : IntKind.i64.wrap ((x : Nat) : Int) = (x : Int) := by rw [IntKind.wrap_i64]; omega
      have w2 : IntKind.i64.wrap (n.natAbs : Int) = (n.natAbs : Int) := by rw [IntKind.wrap_i64]; omega
      have w3 : ¬ (k : Int) < 0 := by omega
      have w4 : IntKind.i64.wrap (-(n.natAbs : Int)) = -(n.natAbs : Int) := by rw [IntKind.wrap_i64]; omega
      (try go_wp2_with fail)
      go_quiet (fail)
      (try go_wp2_with fail)
      go_ret
      refine ⟨?_, belowN L.below _⟩
      show Ending.returned (.int .i64 ((n.natAbs : Int))) = _
      rw [show (n.natAbs : Int) = n by omega]

/-- How many digits a power of e has in front of its point, at most: from the ceiling of the exponent. -/
def dgN (c : Int) : Nat := if c ≤ 0 then 0 else ((3 * c + 1) / 2).toNat
theorem up_one : UpE 1 4 := (exp_up 4 (x := 1) (by decide +kernel)).up (by decide +kernel)
theorem up_two : UpE 2 8 := (exp_up 7 (x := 2) (by decide +kernel)).up (by decide +kernel)
theorem dq_add1 (a b : Int) : dq 1 (a + b) = dq 1 a * dq 1 b := by
  have := dq_mul 1 a 1 b
  rwa [Int.one_mul] at this
theorem rp_eight (j : Nat) : rp 8 j = dq 1 (3 * (j : Int)) := by
  induction j with
  | zero => rfl
  | succ j ih =>
    rw [rp_succ, ih, show 3 * ((j + 1 : Nat) : Int) = 3 * (j : Int) + 3 by omega, dq_add1]
    rfl
theorem dg_up {c : Int} {q : Rat} (h : q ≤ (c : Rat)) : UpE q (dq 1 (dgN c : Int)) := by
  unfold dgN
  by_cases hc : c ≤ 0
  · rw [if_pos hc]
    have h0 := Rat.intCast_le_intCast.2 hc
    exact (exp_0.2.mono (Rat.le_trans h h0)).up Rat.le_refl
  · rw [if_neg hc]
    obtain ⟨j, hj⟩ : ∃ j : Nat, c = 2 * (j : Int) ∨ c = 2 * (j : Int) + 1 := ⟨(c / 2).toNat, by omega⟩
    have h1 := up_two.rp j
    rw [rp_eight] at h1
    rcases hj with e | e
    · have e2 : (((3 * c + 1) / 2).toNat : Int) = 3 * (j : Int) := by omega
      rw [e2]
      refine h1.mono (Rat.le_trans h ?_)
      rw [e, Rat.intCast_mul, Rat.intCast_natCast, show ((2 : Int) : Rat) = 2 from rfl]
      grind
    · have e2 : (((3 * c + 1) / 2).toNat : Int) = 3 * (j : Int) + 2 := by omega
      rw [e2, dq_add1]
      refine (h1.add up_one).mono (Rat.le_trans h ?_)
      rw [e, Rat.intCast_add, Rat.intCast_mul, Rat.intCast_natCast, show ((2 : Int) : Rat) = 2 from rfl, show ((1 : Int) : Rat) = 1 from rfl]
      grind
theorem one_dg (n : Nat) : (1 : Rat) ≤ dq 1 (n : Int) := by
  induction n with
  | zero => exact Rat.le_refl
  | succ n ih =>
    rw [show ((n + 1 : Nat) : Int) = (n : Int) + 1 by omega, dq_add1]
    have e : dq 1 1 = 2 := rfl
    rw [e]
    grind
/-- All numbers of a call: the exponent m * 2^e, the precision w, the halvings h, the places p, the digits dg. -/
structure PwH (m e : Int) (w h p dg : Nat) : Prop where
  ep : p = w + 32 + h + dg
  up : UpE (dq m e) (dq 1 (dg : Int))
  lo : -dq 1 ((h : Int) - 64) ≤ dq m e
  hi : dq m e ≤ dq 1 ((h : Int) - 64)
  p7 : p ≤ 700
theorem dq_anti {a b : Int} (h : a ≤ b) : dq 1 a ≤ dq 1 b := by
  obtain ⟨n, rfl⟩ : ∃ n : Nat, b = a + (n : Int) := ⟨(b - a).toNat, by omega⟩
  rw [dq_add1]
  have := Rat.mul_le_mul_of_nonneg_left (one_dg n) (Rat.le_of_lt (dq_pos a))
  grind
/-- The argument of the series. -/
def nrX (m e : Int) (h p : Nat) : Int := (cutQ (dq m (e + -(h : Int))) ((p : Int) + 1) + 1) / 2
theorem dq_hlv (m e h : Int) : dq m (e + -h) = dq m e * dq 1 (-h) := by
  have := dq_mul m e 1 (-h)
  rwa [Int.mul_one] at this
theorem PwH.arg {m e : Int} {w h p dg : Nat} (H : PwH m e w h p dg) : (nrX m e h p).natAbs * 2 ^ 32 ≤ 2 ^ p ∧ (0 ≤ dq m e → 0 ≤ nrX m e h p) ∧ (dq m e ≤ 0 → nrX m e h p ≤ 0) ∧
    dq (nrX m e h p) (-(p : Int)) ≤ dq m (e + -(h : Int)) + dq 1 (-(p : Int)) ∧ dq m (e + -(h : Int)) ≤ dq (nrX m e h p) (-(p : Int)) + dq 1 (-(p : Int)) := by
  have n1 := near_lo (dq m (e + -(h : Int))) (p : Int)
  have n2 := near_hi (dq m (e + -(h : Int))) (p : Int)
  have hh := dq_half (p : Int)
  have hu := dq_pos (-(p : Int))
  have hu2 := dq_pos (-((p : Int) + 1))
  have ep := H.ep
  have hq := dq_hlv m e (h : Int)
  have h64 : dq 1 ((h : Int) - 64) * dq 1 (-(h : Int)) = dq 1 (-64) := by rw [← dq_add1]; congr 1; omega
  have hhp := dq_pos (-(h : Int))
  have q1 := Rat.mul_le_mul_of_nonneg_right H.hi (Rat.le_of_lt hhp)
  have q2 := Rat.mul_le_mul_of_nonneg_right H.lo (Rat.le_of_lt hhp)
  rw [h64, ← hq] at q1
  rw [Rat.neg_mul, h64, ← hq] at q2
  have hX : (cutQ (dq m (e + -(h : Int))) ((p : Int) + 1) + 1) / 2 = nrX m e h p := rfl
  rw [hX] at n1 n2
  have c32 : dq 1 (-(p : Int)) ≤ dq 1 (-32) := dq_anti (by omega)
  have v32 : dq 1 (-32) = 1 / 4294967296 := by decide +kernel
  have v64 : dq 1 (-64) = 1 / 18446744073709551616 := by decide +kernel
  refine ⟨?_, fun h0 => ?_, fun h0 => ?_, by grind, by grind⟩
  · have e32 : (2 : Nat) ^ 32 = 4294967296 := by decide
    have eP : (((2 : Nat) ^ p : Nat) : Int) = 2 ^ p := by simp
    have k1 : nrX m e h p * 4294967296 ≤ 2 ^ p := by
      refine (dq_le_iff _ _ (-(p : Int))).1 ?_
      rw [dq_onep, dq_scale (nrX m e h p * 4294967296), Rat.intCast_mul]
      rw [dq_scale (nrX m e h p)] at n1
      have e9 : ((4294967296 : Int) : Rat) = 4294967296 := by decide +kernel
      rw [e9]
      rw [v32] at c32
      rw [v64] at q1 q2
      clear v32 v64 h64 hX e9 eP e32 hq
      generalize ((nrX m e h p : Int) : Rat) = X at *
      generalize dq 1 (-(p : Int)) = u at *
      generalize dq 1 (-((p : Int) + 1)) = u2 at *
      generalize dq m (e + -(h : Int)) = q at *
      clear H ep
      grind
    have k2 : -(2 ^ p) ≤ nrX m e h p * 4294967296 := by
      refine (dq_le_iff _ _ (-(p : Int))).1 ?_
      rw [dq_neg, dq_onep, dq_scale (nrX m e h p * 4294967296), Rat.intCast_mul]
      rw [dq_scale (nrX m e h p)] at n2
      have e9 : ((4294967296 : Int) : Rat) = 4294967296 := by decide +kernel
      rw [e9]
      rw [v32] at c32
      rw [v64] at q1 q2
      clear v32 v64 h64 hX e9 eP e32 hq
      generalize ((nrX m e h p : Int) : Rat) = X at *
      generalize dq 1 (-(p : Int)) = u at *
      generalize dq 1 (-((p : Int) + 1)) = u2 at *
      generalize dq m (e + -(h : Int)) = q at *
      clear H ep
      grind
    rw [e32]
    rw [← eP] at k1 k2
    omega
  · unfold nrX
    have h1 : 0 ≤ dq m (e + -(h : Int)) := by rw [hq]; exact Rat.mul_nonneg h0 (Rat.le_of_lt hhp)
    have : 0 ≤ cutQ (dq m (e + -(h : Int))) ((p : Int) + 1) := by
      unfold cutQ
      refine Rat.le_floor_iff.2 ?_
      exact Rat.mul_nonneg h1 (Rat.le_of_lt (dq_pos _))
    omega
  · unfold nrX
    have h1 : dq m (e + -(h : Int)) ≤ 0 := by
      rw [hq]
      have := Rat.mul_nonneg (show 0 ≤ -(dq m e) by grind) (Rat.le_of_lt hhp)
      grind
    have : cutQ (dq m (e + -(h : Int))) ((p : Int) + 1) ≤ 0 := by
      have h2 := cut_lo (dq m (e + -(h : Int))) ((p : Int) + 1)
      have h3 := (dq_le_iff (cutQ (dq m (e + -(h : Int))) ((p : Int) + 1)) 0 (-((p : Int) + 1))).1 (by rw [dq_zero]; exact Rat.le_trans h2 h1)
      exact h3
    omega
/-- A round of the squares. -/
def PwL (m e : Int) (h p i : Nat) (s : Int) : Prop := i ≤ h ∧ ∃ n0, n0 ≤ 1000 ∧ PwB p ((n0 + 1) * 2 ^ i - 1) s ((((2 : Nat) ^ i : Nat) : Rat) * dq m (e + -(h : Int)))
theorem first_num {u x s k : Rat} (hu : 0 < u) (c32 : u ≤ 1 / 4294967296) (hk0 : 0 ≤ k) (hk : k ≤ 60) (hx : -(1 / 8) ≤ x) (b1 : 1 + x ≤ s + (3 * k + 3) * u) (b2 : s - (3 * k + 3) * u ≤ 8 / 7) :
    u ≤ 1 / 2 ∧ s - (3 * k + 3) * u ≤ 2 ∧ s + (3 * k + 3) * u ≤ 2 ∧ (3 * k + 7) * u ≤ 1 / 4 ∧ 0 ≤ s ∧ s - (3 * k + 7) * u ≤ s - (3 * k + 3) * u - 2 * u ∧ s + (3 * k + 3) * u + 4 * u ≤ s + (3 * k + 7) * u := by
  have h1 : (3 * k + 7) * u ≤ 187 * u := Rat.mul_le_mul_of_nonneg_right (by grind) (Rat.le_of_lt hu)
  have h2 : 0 ≤ (3 * k + 3) * u := Rat.mul_nonneg (by grind) (Rat.le_of_lt hu)
  refine ⟨by grind, by grind, by grind, by grind, by grind, by grind, by grind⟩
theorem PwL.first {m e : Int} {w h p dg k : Nat} {S : Int} (H : PwH m e w h p dg) (R : ExR (nrX m e h p) p k 0 S) : PwL m e h p 0 S := by
  obtain ⟨x1, x2, x3, x4, x5⟩ := H.arg
  have hk2 : 2 ≤ k := by
    refine Nat.not_lt.1 fun hlt => ?_
    have h1 := R.k1
    obtain rfl : k = 1 := by omega
    have h2 := R.tl.1
    rw [show tm (1 - 1) (dq (nrX m e h p) (-(p : Int))) = 1 from rfl, dq_zero] at h2
    have ep := H.ep
    have c32 : dq 1 (-(p : Int)) ≤ dq 1 (-32) := dq_anti (by omega)
    have v32 : dq 1 (-32) = 1 / 4294967296 := by decide +kernel
    rw [v32] at c32
    clear x1 x2 x3 x4 x5 R H ep hlt h1 v32
    generalize dq 1 (-(p : Int)) = u at *
    grind
  obtain ⟨l1, l2⟩ := R.last x1 hk2
  have fk := R.fk
  have p7 := H.p7
  have ep := H.ep
  have hkb : k ≤ 60 := by omega
  have c32 : dq 1 (-(p : Int)) ≤ dq 1 (-32) := dq_anti (by omega)
  have v32 : dq 1 (-32) = 1 / 4294967296 := by decide +kernel
  have hu := dq_pos (-(p : Int))
  have hkr : (k : Rat) ≤ 60 := by exact_mod_cast hkb
  have hk0 := nat_nn k
  obtain ⟨x, hx⟩ : ∃ x, dq (nrX m e h p) (-(p : Int)) = x := ⟨_, rfl⟩
  have hxb : -(1 / 8) ≤ x ∧ x ≤ 1 / 8 := by
    have eP : (((2 : Nat) ^ p : Nat) : Int) = 2 ^ p := by simp
    have h1 : -(2 ^ p) ≤ nrX m e h p * 8 := by rw [← eP]; omega
    have h2 : nrX m e h p * 8 ≤ 2 ^ p := by rw [← eP]; omega
    have g1 := (dq_le_iff _ _ (-(p : Int))).2 h1
    have g2 := (dq_le_iff _ _ (-(p : Int))).2 h2
    rw [dq_neg, dq_onep, dq_scale (nrX m e h p * 8), Rat.intCast_mul] at g1
    rw [dq_onep, dq_scale (nrX m e h p * 8), Rat.intCast_mul] at g2
    rw [dq_scale (nrX m e h p)] at hx
    have e8 : ((8 : Int) : Rat) = 8 := rfl
    rw [e8] at g1 g2
    clear x1 x2 x3 x4 x5 R H l1 l2 c32 v32 hu hkr hk0
    generalize ((nrX m e h p : Int) : Rat) = X at *
    generalize dq 1 (-(p : Int)) = u at *
    constructor <;> grind
  rw [hx] at l1 l2 x4 x5
  -- the sum lies between 1/2 and 2
  have b1 := (exp_line x).le l2
  have b2 : dq S (-(p : Int)) - (3 * (k : Rat) + 3) * dq 1 (-(p : Int)) ≤ 8 / 7 := by
    obtain ⟨z1, z2⟩ := hxb
    have p1 : 0 < 1 + -x := by clear x1 x2 x3 x4 x5 R H l1 l2 c32 v32 hu hkr hk0 hx b1; grind
    have g := (exp_line (-x)).neg p1
    rw [Rat.neg_neg] at g
    refine Rat.le_trans (l1.le g) ?_
    refine le_of_mul (c := 1 + -x) p1 ?_
    have p2 : 1 + -x ≠ 0 := by clear x1 x2 x3 x4 x5 R H l1 l2 c32 v32 hu hkr hk0 hx b1 g; grind
    rw [Rat.inv_mul_cancel _ p2]
    clear x1 x2 x3 x4 x5 R H l1 l2 c32 v32 hu hkr hk0 hx b1 g p2
    grind
  rw [v32] at c32
  obtain ⟨f1, f2, f3, f4, f5, f6, f7⟩ := first_num hu c32 hk0 hkr hxb.1 b1 b2
  obtain ⟨y1, y2⟩ := arg_near hu f1 x4 x5 l1 l2 f2 f3
  have e7 : ((3 * k + 7 : Nat) : Rat) = 3 * (k : Rat) + 7 := by push_cast; rfl
  have hy := dq_hlv m e (h : Int)
  have hhp := dq_pos (-(h : Int))
  refine ⟨by omega, 2 * (3 * k + 7), by omega, ?_⟩
  rw [show (2 * (3 * k + 7) + 1) * 2 ^ 0 - 1 = 2 * (3 * k + 7) by rw [Nat.pow_zero]; omega, show (((2 : Nat) ^ 0 : Nat) : Rat) * dq m (e + -(h : Int)) = dq m (e + -(h : Int)) from by rw [Nat.pow_zero]; exact Rat.one_mul _]
  refine PwB.first (y1.down ?_) (y2.up ?_) ?_ (fun h0 => ?_) (fun h0 => ?_)
  · rw [e7]; exact f6
  · rw [e7]; exact f7
  · rw [e7]; exact f4
  · refine (R.sp (x2 ?_)).2
    rw [hy] at h0
    clear x1 x2 x3 x4 x5 R H l1 l2 c32 v32 hu hkr hk0 hx b1 b2 f1 f2 f3 f4 f5 f6 f7 y1 y2 e7 hxb
    generalize dq m e = D at *
    generalize dq 1 (-(h : Int)) = H2 at *
    refine Rat.not_lt.1 fun hlt => ?_
    have := Rat.mul_pos (show 0 < -D by grind) hhp
    grind
  · have hd : dq m e ≤ 0 := by
      rw [hy] at h0
      clear x1 x2 x3 x4 x5 R H l1 l2 c32 v32 hu hkr hk0 hx b1 b2 f1 f2 f3 f4 f5 f6 f7 y1 y2 e7 hxb
      generalize dq m e = D at *
      generalize dq 1 (-(h : Int)) = H2 at *
      refine Rat.not_lt.1 fun hlt => ?_
      have := Rat.mul_pos hlt hhp
      grind
    refine ⟨?_, (R.sn (x3 hd)).1⟩
    refine (dq_le_iff 0 S (-(p : Int))).1 ?_
    rw [dq_zero]
    exact f5
theorem PwL.step {m e : Int} {h p i : Nat} {s : Int} (L : PwL m e h p i s) (hi : i < h) : PwL m e h p (i + 1) (s * s / 2 ^ p) := by
  obtain ⟨_, n0, h0, b⟩ := L
  refine ⟨by omega, n0, h0, ?_⟩
  have := b.step
  have hp := Nat.pow_pos (n := i) (show 0 < 2 by omega)
  have h1 : 1 ≤ (n0 + 1) * 2 ^ i := Nat.mul_pos (by omega) hp
  have e1 : 2 * ((n0 + 1) * 2 ^ i - 1) + 1 = (n0 + 1) * 2 ^ (i + 1) - 1 := by
    rw [Nat.pow_succ, ← Nat.mul_assoc]
    omega
  have e2 : 2 * ((((2 : Nat) ^ i : Nat) : Rat) * dq m (e + -(h : Int))) = (((2 : Nat) ^ (i + 1) : Nat) : Rat) * dq m (e + -(h : Int)) := by
    rw [Nat.pow_succ, Rat.natCast_mul, show ((2 : Nat) : Rat) = 2 from rfl]
    grind
  rwa [e1, e2] at this
/-- Powers of two as natural numbers and as dyadics. -/
theorem nat_dq (n : Nat) : (((2 : Nat) ^ n : Nat) : Rat) = dq 1 (n : Int) := by
  induction n with
  | zero => rfl
  | succ n ih =>
    rw [Nat.pow_succ, Rat.natCast_mul, ih, show ((n + 1 : Nat) : Int) = (n : Int) + 1 by omega, dq_add1]
    rfl
theorem pw_n {n0 i h p : Nat} (h0 : n0 ≤ 1000) (hi : i ≤ h) : (((n0 + 1) * 2 ^ i - 1 : Nat) : Rat) * dq 1 (-(p : Int)) ≤ dq 1 (10 + (h : Int) - (p : Int)) := by
  have h1 : (n0 + 1) * 2 ^ i - 1 ≤ 2 ^ (10 + h) := by
    have a1 : (n0 + 1) * 2 ^ i ≤ 1024 * 2 ^ h := Nat.mul_le_mul (by omega) (Nat.pow_le_pow_right (by omega) hi)
    have e10 : (2 : Nat) ^ 10 = 1024 := by decide
    rw [Nat.pow_add, e10]
    omega
  have h2 : (((n0 + 1) * 2 ^ i - 1 : Nat) : Rat) ≤ (((2 : Nat) ^ (10 + h) : Nat) : Rat) := by exact_mod_cast h1
  rw [nat_dq] at h2
  have h3 := Rat.mul_le_mul_of_nonneg_right h2 (Rat.le_of_lt (dq_pos (-(p : Int))))
  rw [← dq_add1, show ((10 + h : Nat) : Int) + -(p : Int) = 10 + (h : Int) - (p : Int) by omega] at h3
  exact h3
theorem PwL.mid {m e : Int} {w h p dg i : Nat} (H : PwH m e w h p dg) (hi : i ≤ h) : UpE ((((2 : Nat) ^ i : Nat) : Rat) * dq m (e + -(h : Int))) (dq 1 (dg : Int)) := by
  have hq := dq_hlv m e (h : Int)
  have hhp := dq_pos (-(h : Int))
  have e1 : (((2 : Nat) ^ h : Nat) : Rat) * dq m (e + -(h : Int)) = dq m e := by
    rw [hq, nat_dq]
    have := dq_unit (h : Int)
    grind
  by_cases h0 : 0 ≤ dq m (e + -(h : Int))
  · refine H.up.mono ?_
    rw [← e1]
    refine Rat.mul_le_mul_of_nonneg_right ?_ h0
    exact_mod_cast Nat.pow_le_pow_right (n := 2) (by omega) hi
  · refine (exp_0.2.mono ?_).up (one_dg dg)
    have := Rat.mul_nonneg (nat_nn (2 ^ i)) (show 0 ≤ -(dq m (e + -(h : Int))) by grind)
    grind
theorem PwL.size {m e : Int} {w h p dg i : Nat} {s : Int} (H : PwH m e w h p dg) (L : PwL m e h p i s) : AbP s (p + dg + 1) := by
  obtain ⟨hi, n0, h0, b⟩ := L
  have ep := H.ep
  have hn := pw_n (p := p) h0 hi
  have hc : dq 1 (10 + (h : Int) - (p : Int)) ≤ dq 1 (-1) := dq_anti (by omega)
  have v1 : dq 1 (-1) = 1 / 2 := by decide +kernel
  obtain ⟨t1, t2⟩ := b.top (PwL.mid H hi) (one_dg dg) (by grind)
  have e2 : 2 * dq 1 (dg : Int) = dq (2 ^ (p + dg + 1)) (-(p : Int)) := by
    have : dq (2 ^ (p + dg + 1)) (-(p : Int)) = dq 1 ((dg : Int) + 1) := by
      refine dq_eq (F := -(p : Int)) ?_ (by omega) (by omega)
      rw [show (-(p : Int) - -(p : Int)).toNat = 0 by omega, show ((dg : Int) + 1 - -(p : Int)).toNat = p + dg + 1 by omega]
      simp
    rw [this, dq_add1]
    have v2 : dq 1 1 = 2 := rfl
    rw [v2]
    grind
  rw [e2] at t2
  have t3 := (dq_le_iff _ _ _).1 t2
  unfold AbP
  have eP : (((2 : Nat) ^ (p + dg + 1) : Nat) : Int) = 2 ^ (p + dg + 1) := by simp
  rw [← eP] at t3
  omega
/-- The power: not further off than 2^-(w + 20). -/
theorem PwL.last {m e : Int} {w h p dg : Nat} {s : Int} (H : PwH m e w h p dg) (L : PwL m e h p h s) : 0 ≤ s ∧ LoE (dq s (-(p : Int)) - dq 1 (-((w : Int) + 20))) (dq m e) ∧ UpE (dq m e) (dq s (-(p : Int)) + dq 1 (-((w : Int) + 20))) := by
  obtain ⟨hi, n0, h0, b⟩ := L
  have ep := H.ep
  have hn := pw_n (p := p) h0 hi
  have hc : dq 1 (10 + (h : Int) - (p : Int)) ≤ dq 1 (-1) := dq_anti (by omega)
  have v1 : dq 1 (-1) = 1 / 2 := by decide +kernel
  have hm := PwL.mid H hi
  have hB := one_dg dg
  obtain ⟨t1, _⟩ := b.top hm hB (by grind)
  have e1 : (((2 : Nat) ^ h : Nat) : Rat) * dq m (e + -(h : Int)) = dq m e := by
    rw [dq_hlv m e (h : Int), nat_dq]
    have := dq_unit (h : Int)
    grind
  have k1 := Rat.mul_le_mul_of_nonneg_right hn (Rat.le_of_lt (dq_pos (dg : Int)))
  rw [← dq_add1, show 10 + (h : Int) - (p : Int) + (dg : Int) = -((w : Int) + 20) + -2 by omega, dq_add1] at k1
  have v4 : dq 1 (-2) = 1 / 4 := by decide +kernel
  have hM1 : dq 1 (-((w : Int) + 20)) ≤ dq 1 0 := dq_anti (by omega)
  have v0 : dq 1 0 = 1 := by decide +kernel
  rw [v0] at hM1
  rw [v4] at k1
  have k2 : 4 * ((((n0 + 1) * 2 ^ h - 1 : Nat) : Rat) * dq 1 (-(p : Int)) * dq 1 (dg : Int)) ≤ dq 1 (-((w : Int) + 20)) := by
    clear H hi h0 b ep hn hc v1 hm hB t1 e1 v4 hM1 v0
    generalize (((n0 + 1) * 2 ^ h - 1 : Nat) : Rat) * dq 1 (-(p : Int)) * dq 1 (dg : Int) = Z at *
    generalize dq 1 (-((w : Int) + 20)) = M at *
    grind
  obtain ⟨r1, r2⟩ := b.last (M := dq 1 (-((w : Int) + 20))) hm hB k2 hM1
  rw [e1] at r1 r2
  exact ⟨t1, r1, r2⟩
/-- Far below zero the power is next to nothing. -/
theorem pfar_up {m e : Int} {w : Nat} (h : dq m e ≤ -4096) (hw : w ≤ 4000) : UpE (dq m e) (dq 1 (-((w : Int) + 20))) := by
  have h1 : LoE 2 1 := by
    have := exp_line 1
    rwa [show (1 : Rat) + 1 = 2 by grind] at this
  have h2 := (h1.rp (by grind) 4096).neg (rp_pos (by grind) 4096)
  have e : ∀ n : Nat, rp 2 n = dq 1 (n : Int) := fun n => by
    induction n with
    | zero => rfl
    | succ n ih =>
      rw [rp_succ, ih, show ((n + 1 : Nat) : Int) = (n : Int) + 1 by omega, dq_add1]
      rfl
  rw [e] at h2
  have hi : (dq 1 ((4096 : Nat) : Int))⁻¹ = dq 1 (-4096) := by
    have u := dq_unit 4096
    have hp := dq_pos 4096
    have : dq 1 ((4096 : Nat) : Int) = dq 1 4096 := rfl
    rw [this]
    have h3 := Rat.inv_mul_cancel (dq 1 4096) (by grind)
    grind
  rw [hi] at h2
  refine (h2.mono ?_).up (dq_anti (by omega))
  have : ((4096 : Nat) : Rat) * 1 = 4096 := by decide +kernel
  rw [this]
  exact h

/-- A dyadic is less than the power of two of its top. -/
theorem top_bd (m e : Int) : -dq 1 (topZ m e) ≤ dq m e ∧ dq m e ≤ dq 1 (topZ m e) := by
  unfold topZ
  by_cases h0 : m = 0
  · subst h0
    rw [if_pos rfl, dq_zero]
    have := dq_pos 0
    constructor <;> grind
  · rw [if_neg h0]
    have hi := lt_two_pow_blen m.natAbs
    obtain ⟨n, hn⟩ : ∃ n, blen m.natAbs = n := ⟨_, rfl⟩
    rw [hn] at hi ⊢
    have eP : dq ((2 ^ n : Nat) : Int) e = dq 1 ((n : Int) + e) := by
      rw [dq_scale, Rat.intCast_natCast, nat_dq, ← dq_add1]
    rw [← eP, ← dq_neg]
    exact ⟨(dq_le_iff _ _ _).2 (by omega), (dq_le_iff _ _ _).2 (by omega)⟩

theorem r01 : (0 : Rat) ≤ 1 := by decide
theorem dq_nn {m : Int} (e : Int) (h : 0 ≤ m) : 0 ≤ dq m e := by
  have := (dq_le_iff 0 m e).2 h
  rwa [dq_zero] at this
theorem dq_shl (j : Nat) (m e : Int) : dq (m * 2 ^ j) e = dq m (e + (j : Int)) := dq_eq (F := e) (by rw [show e - e = 0 by omega, show (e + (j : Int) - e).toNat = j by omega]; simp) (by omega) (by omega)
theorem dq_lt_iff (C D F : Int) : dq C F < dq D F ↔ C < D := by
  rw [← Rat.not_le, dq_le_iff]
  omega
theorem dq1_mono {a b : Int} (h : a ≤ b) : dq 1 a ≤ dq 1 b := by
  obtain ⟨j, rfl⟩ : ∃ j : Nat, b = a + (j : Int) := ⟨(b - a).toNat, by omega⟩
  rw [← dq_shl, dq_le_iff]
  have := pow2_pos j
  omega
theorem dq_shl1 (j : Nat) (e : Int) : dq ((2 ^ j : Nat) : Int) e = dq 1 (e + (j : Int)) := by
  rw [← dq_shl, Int.one_mul, cast2]
/-- The absolute value of a dyadic, by its highest digit. -/
theorem top_iff {m e K : Int} (hK : 0 ≤ K) : topZ m e ≤ K ↔ -(dq 1 K) < dq m e ∧ dq m e < dq 1 K := by
  unfold topZ
  by_cases h0 : m = 0
  · subst h0
    rw [if_pos rfl, dq_zero]
    have hp := dq_pos K
    refine ⟨fun _ => ⟨?_, hp⟩, fun _ => hK⟩
    have := Rat.neg_lt_neg hp
    rwa [Rat.neg_zero] at this
  · rw [if_neg h0]
    have hp : 0 < m.natAbs := by omega
    have hb := blen_pos hp
    have lo := two_pow_blen_le hp
    have hi := lt_two_pow_blen m.natAbs
    have e1 : dq ((2 ^ (blen m.natAbs - 1) : Nat) : Int) e ≤ dq (m.natAbs : Int) e := (dq_le_iff _ _ _).2 (by omega)
    have e2 : dq (m.natAbs : Int) e < dq ((2 ^ blen m.natAbs : Nat) : Int) e := (dq_lt_iff _ _ _).2 (by omega)
    rw [dq_shl1] at e1 e2
    have e3 : 0 ≤ dq (m.natAbs : Int) e := dq_nn e (by omega)
    have key : (blen m.natAbs : Int) + e ≤ K ↔ dq (m.natAbs : Int) e < dq 1 K := by
      constructor
      · intro h
        exact rle_lt e2 (dq1_mono (by omega))
      · intro h
        by_cases hc : (blen m.natAbs : Int) + e ≤ K
        · exact hc
        · have := dq1_mono (a := K) (b := e + ((blen m.natAbs - 1 : Nat) : Int)) (by omega)
          exact absurd (Rat.le_trans this e1) (Rat.not_le.2 h)
    rw [key]
    have hn : -(dq 1 K) < 0 := by
      have := Rat.neg_lt_neg (dq_pos K)
      rwa [Rat.neg_zero] at this
    rcases Int.lt_or_le m 0 with hm | hm
    · rw [show m = -(m.natAbs : Int) from by omega, dq_neg, show (-(m.natAbs : Int)).natAbs = m.natAbs from by omega]
      constructor
      · intro h
        refine ⟨Rat.neg_lt_neg h, rlt_le ?_ (dq_pos K)⟩
        have := Rat.neg_le_neg e3
        rwa [Rat.neg_zero] at this
      · rintro ⟨h, _⟩
        have := Rat.neg_lt_neg h
        rwa [Rat.neg_neg, Rat.neg_neg] at this
    · rw [show ((m.natAbs : Int)) = m from by omega] at e3 ⊢
      exact ⟨fun h => ⟨rle_lt hn e3, h⟩, fun h => h.2⟩
/-- The ceiling of an exponent. -/
def clZ (m e : Int) : Int := -(cutQ (-(dq m e)) 0)
theorem clZ_up (m e : Int) : dq m e ≤ ((clZ m e : Int) : Rat) := by
  have h := cut_lo (-(dq m e)) 0
  rw [Int.neg_zero, dq_int] at h
  unfold clZ
  rw [Rat.intCast_neg]
  generalize dq m e = q at *
  grind
theorem clZ_le {m e b : Int} (h : dq m e ≤ (b : Rat)) : clZ m e ≤ b := by
  have h1 := cut_hi (-(dq m e)) 0
  rw [Int.neg_zero, dq_int, dq_int] at h1
  unfold clZ
  have h2 : ((-(b + 1) : Int) : Rat) < ((cutQ (-(dq m e)) 0 : Int) : Rat) := by
    rw [Rat.intCast_neg, Rat.intCast_add]
    generalize dq m e = q at *
    grind
  have := Rat.intCast_lt_intCast.1 h2
  omega
theorem clZ_ge {m e b : Int} (h : (b : Rat) ≤ dq m e) : b ≤ clZ m e := by
  have := Rat.intCast_le_intCast.1 (Rat.le_trans h (clZ_up m e))
  exact this

set_option maxHeartbeats 8000000 in
theorem xdig_any (m e : Int) (vx : Value) (w : World) (hx : IsD w vx m e) (lm : zl m ≤ 100) (he : -10000 ≤ e ∧ e ≤ 10000) (hc1 : -100000 ≤ clZ m e) (hc2 : clZ m e ≤ 100000) (hT : Tab w) :
    Calls Tryz.prog 108 #[vx] w (RetI w (dgN (clZ m e) : Int)) := by
  obtain ⟨A, c, rfl, _, hn⟩ := hx.form
  have L0 := (Lq.mk0 w).n hn
  have g1 := fun x W h (hW : Below w.heap.size w W) => gceil_any m e 0 x W h (by omega) (by omega) (by omega) (by omega) (hT.mono hW)
  have hcl : -(cutQ (-(dq m e)) 0) = clZ m e := rfl
  rw [hcl] at g1
  obtain ⟨C, hC⟩ : ∃ z, clZ m e = z := ⟨_, rfl⟩
  rw [hC] at g1 hc1 hc2 ⊢
  obtain ⟨e1, e2, e3⟩ := g_yes (p := 0) (by decide) C
  have hCb : AbP C 17 := by
    have e : (2 : Nat) ^ 17 = 131072 := by decide
    unfold AbP
    rw [e]
    omega
  rw [e1, e2, e3, Int.neg_zero, (nf hCb (by omega)).1] at g1
  have g2 := fun x W h => xwhole_any C x W h (by omega)
  obtain ⟨D, hD⟩ : ∃ D, dgN C = D := ⟨_, rfl⟩
  obtain ⟨q, hq⟩ : ∃ q, (3 * C + 1).tdiv 2 = q := ⟨_, rfl⟩
  have hq2 : q = (3 * C + 1) / 2 ∨ (3 * C + 1 < 0 ∧ q = (3 * C + 1) / 2 + 1) := by
    rw [Int.tdiv_eq_ediv] at hq
    split at hq
    · left; omega
    · rename_i h9
      right
      have h8 : ¬ 0 ≤ 3 * C + 1 := fun h => h9 (Or.inl h)
      rw [show Int.sign 2 = 1 from rfl] at hq
      omega
  have hqb : max q 0 = (D : Int) := by
    rw [← hD]
    unfold dgN
    split <;> omega
  have w1 : IntKind.i64.wrap (3 * C) = 3 * C := by rw [IntKind.wrap_i64]; omega
  have w2 : IntKind.i64.wrap (3 * C + 1) = 3 * C + 1 := by rw [IntKind.wrap_i64]; omega
  have w3 : IntKind.i64.wrap q = q := by rw [IntKind.wrap_i64]; omega
  rw [hD]
  generalize mkM C 0 = M at *
  generalize mkE C 0 = E at *
  have G1 := Lib.hid g1
  have G2 := Lib.hid g2
  clear g1 g2 hD hC hcl e1 e2 e3 hCb hc1 hc2 hT hx hn
  go_enter Tryz.func108, Tryz.ntmps108
  have L := (L0.varD (w.heap.size) (by simp) (ng m) A (zl m) c e)
  have c00 := L.b0.c30
  have c01 := L.b0.c31
  have c02 := L.b0.c32
  (try go_wp2_with fail)
  refine (G1.out _ _ (isD_n (m := m) (e := e) (s := .slice A (zl m) c) (L.getN (by simp))) L.below).mono ?_
  rintro e w1 ⟨v9, rfl, iz, be⟩
  clear c00 c01 c02
  obtain ⟨A1, c1, rfl, _, in9⟩ := iz.form
  replace L := (L.step be).n in9
  clear be iz in9
  have hl9 := L.b0.lt
  replace L := L.varD w1.heap.size rfl (ng M) A1 (zl M) c1 E
  have c00 := L.b0.c30
  have c01 := L.b0.c31
  have c02 := L.b0.c32
  go_wp2_with fail
  clear c00 c01 c02
  obtain ⟨g1, hg1⟩ : ∃ g9, w1.heap.size = g9 := ⟨_, rfl⟩
  rw [hg1] at L hl9 ⊢
  clear hg1
  have hl_g1 := hl9
  clear hl9
  refine (G2.out _ _ (isD_n (m := M) (e := E) (s := .slice A1 (zl M) c1) (L.getN (by simp)))).mono ?_
  rintro e w2 ⟨rfl, be⟩
  replace L := L.step be
  clear be
  (try go_wp2_with fail)
  go_ret
  exact ⟨rfl, L.below⟩
/-- What a power is: not further off than 2^-(k + 20). -/
def RetPw (w : World) (k : Nat) (m e : Int) (en : Ending) (w' : World) : Prop := ∃ (s : Int) (p : Nat), p ≤ 700 ∧ AbP s 1100 ∧ 0 ≤ s ∧ LoE (dq s (-(p : Int)) - dq 1 (-((k : Int) + 20))) (dq m e) ∧ UpE (dq m e) (dq s (-(p : Int)) + dq 1 (-((k : Int) + 20))) ∧ RetD8 w (mkM s (-(p : Int))) (mkE s (-(p : Int))) en w'
theorem RetPw.zero {w : World} {k : Nat} {m e : Int} {en : Ending} {w' : World} (h : dq m e < -4096) (hk : k ≤ 220) (r : RetD8 w 0 0 en w') : RetPw w k m e en w' := by
  have hu := dq_pos (-((k : Int) + 20))
  refine ⟨0, 0, by omega, AbP.zero _, by omega, (LoE.zero _).down ?_, (pfar_up (Rat.le_of_lt h) (w := k) (by omega)).up ?_, ?_⟩
  · rw [dq_zero]
    generalize dq 1 (-((k : Int) + 20)) = u at *
    grind
  · rw [dq_zero]
    generalize dq 1 (-((k : Int) + 20)) = u at *
    grind
  · rw [show (-((0 : Nat) : Int)) = 0 from rfl, nf00.1, nf00.2]
    exact r
theorem sq_AbP {T X : Int} {p : Nat} (hX : X.natAbs * 2 ^ 32 ≤ 2 ^ p) (hT : AbP T p) (hp : 1 ≤ p) : AbP (T * X / 2 ^ p) p := by
  have h := (pwT_sz (T := T) hX (Nat.le_refl 1)).1
  have e : pwT X p 1 T = T * X / 2 ^ p := by
    unfold pwT
    rw [show ((1 : Nat) : Int) = 1 from rfl, Int.ediv_one]
  rw [e] at h
  unfold AbP at *
  have h2 : 2 ≤ 2 ^ p := Nat.pow_le_pow_right (n := 2) (i := 1) (by omega) hp
  have h3 := Nat.div_mul_le_self T.natAbs 4294967296
  generalize T.natAbs / 4294967296 = q at *
  omega

set_option maxHeartbeats 16000000 in
theorem xpow_any (m e : Int) (k : Nat) (vx : Value) (w : World) (hx : IsD w vx m e) (lm : zl m ≤ 100) (he : -10000 ≤ e ∧ e ≤ 3000) (hv : Dv m e) (hhi : dq m e ≤ 200) (hk : k ≤ 220) (hT : Tab w) :
    Calls Tryz.prog 58 #[vx, .int .i64 (k : Int)] w (RetPw w k m e) := by
  obtain ⟨A, c, rfl, _, hn⟩ := hx.form
  have L0 := (Lq.mk0 w).n hn
  have HT := Lib.hid (fun W (hW : Below w.heap.size w W) => hT.mono hW)
  have hb4 : AbP (-4096) 12 := by unfold AbP; decide
  obtain ⟨z1, z2, z3, z4, z5, z6⟩ := nf hb4 (by omega)
  rw [dq_int] at z6
  have g1 := fun W (hW : Below w.heap.size w W) => dof_any (-4096) W (by omega) (by omega) (hT.mono hW)
  have g2 := fun x y W h j => dcmp_any m e (mkM (-4096) 0) (mkE (-4096) 0) x y W h j (by omega) (by omega) (by omega) (by omega)
  have hlt := dcm_lt m e (mkM (-4096) 0) (mkE (-4096) 0)
  rw [z6] at hlt
  rw [show cmpI (m * 2 ^ (e - min e (mkE (-4096) 0)).toNat) (mkM (-4096) 0 * 2 ^ (mkE (-4096) 0 - min e (mkE (-4096) 0)).toNat) = dcm m e (mkM (-4096) 0) (mkE (-4096) 0) from rfl] at g2
  generalize dcm m e (mkM (-4096) 0) (mkE (-4096) 0) = cm at *
  generalize mkM (-4096) 0 = Mb at *
  generalize mkE (-4096) 0 = Eb at *
  have G1 := Lib.hid g1
  have G2 := Lib.hid g2
  clear g1 g2 z1 z2 z3 z4 z5 z6 hb4 hx
  rcases Int.lt_or_le cm 0 with hcm | hcm
  · have d1 : decide (cm < 0) = true := decide_eq_true hcm
    have hfar := hlt.1 hcm
    clear hlt
    go_enter Tryz.func58, Tryz.ntmps58
    have L := ((L0.varD (w.heap.size) (by simp) (ng m) A (zl m) c e).varD (w.heap.size + 1) (by simp) false none 0 0 0)
    (try go_wp2_with fail)
    replace L := L.drew
    have c10 := L.tl.b0.c30
    have c11 := L.tl.b0.c31
    have c12 := L.tl.b0.c32
    go_region_held3 (fun w' => w'.cell? ⟨w.heap.size, 0, none⟩ = some (.bool (ng m)) ∧ w'.cell? ⟨w.heap.size, 1, none⟩ = some (.slice A (zl m) c) ∧ w'.cell? ⟨w.heap.size, 2, none⟩ = some (.int .i64 e)) (first | (with_reducible exact ⟨L.tl.b0.c30, L.tl.b0.c31, L.tl.b0.c32⟩) | exact ⟨L.tl.b0.c30, L.tl.b0.c31, L.tl.b0.c32⟩) (first | (go_at_call 57; (with_reducible refine (G1.out _ ?_ ).mono ?_); (· exact L.below); rintro e wh ⟨vh, rfl, id, be⟩; obtain ⟨A1, c1, rfl, _, in9⟩ := id.form; replace L := (L.step be).n in9; clear be id in9) | (go_at_call 56; (with_reducible refine (G2.out _ _ _ ?_ ?_ ).mono ?_); (· (refine isD_n (L.getN ?_); (repeat (first | (with_reducible exact List.mem_cons_self) | apply List.mem_cons_of_mem)))); (· (refine isD_n (L.getN ?_); (repeat (first | (with_reducible exact List.mem_cons_self) | apply List.mem_cons_of_mem)))); rintro e wh ⟨rfl, be⟩; replace L := L.step be; clear be))
    clear c10 c11 c12
    have c00 := L.b0.c30
    have f00 := L.b0.fr 0
    have c01 := L.b0.c31
    have f01 := L.b0.fr 1
    have c02 := L.b0.c32
    have f02 := L.b0.fr 2
    go_wp2_with fail
    clear c00 f00 c01 f01 c02 f02
    have LP := L.putD (by omega) (by first | (simp; done) | (simp; omega)) (false) none (0) 0 (0)
    have k0 := LP.b0.c30
    have k1 := LP.b0.c31
    have k2 := LP.b0.c32
    unfold put3 at k0 k1 k2
    exact bodyPost_ret (v := .agg #[.bool (false), .slice none (0) 0, .int .i64 (0)]) (by simp [results, Tryz.results58, go_sem, k0, k1, k2]) rfl (RetPw.zero hfar hk ⟨_, rfl, ⟨.slice none 0 0, by simp [ng], IsN.zero _⟩, LP.below⟩)
  · have d1 : decide (cm < 0) = false := decide_eq_false (by omega)
    have hnear : -4096 ≤ dq m e := by
      refine Rat.not_lt.1 fun hl => ?_
      have := hlt.2 hl
      omega
    clear hlt hcm
    have hen : ∀ args w, (callFunc 111 args).run Tryz.prog w = .ok (.enter 111 args) w := enters_of Tryz.func111 (by kernel_rfl) rfl
    obtain ⟨tp1, tp2⟩ := top_bd m e
    have htl : topZ m e ≤ 13 := by
      by_cases h0 : m = 0
      · subst h0; unfold topZ; rw [if_pos rfl]; omega
      · refine (top_iff (K := 13) (by omega)).2 ⟨?_, ?_⟩
        · have v : dq 1 13 = 8192 := by decide +kernel
          rw [v]
          clear tp1 tp2 hhi
          generalize dq m e = q at *
          grind
        · have v : dq 1 13 = 8192 := by decide +kernel
          rw [v]
          clear tp1 tp2 hnear
          generalize dq m e = q at *
          grind
    have htl2 : -20000 ≤ topZ m e := by unfold topZ; split <;> omega
    obtain ⟨h, hh⟩ : ∃ h : Nat, max (topZ m e + 64) 0 = (h : Int) := ⟨(max (topZ m e + 64) 0).toNat, by omega⟩
    have hcl : clZ m e ≤ 200 := clZ_le (by exact_mod_cast hhi)
    have hcl2 : -4096 ≤ clZ m e := clZ_ge (by exact_mod_cast hnear)
    have g3 := fun x W h (hW : Below w.heap.size w W) => xdig_any m e x W h lm (by omega) (by omega) (by omega) (HT.out W hW)
    obtain ⟨dg, hdg⟩ : ∃ dg, dgN (clZ m e) = dg := ⟨_, rfl⟩
    have hdgb : dg ≤ 301 := by rw [← hdg]; unfold dgN; split <;> omega
    have hupd := dg_up (clZ_up m e)
    rw [hdg] at g3 hupd
    obtain ⟨p, hp⟩ : ∃ p, k + 32 + h + dg = p := ⟨_, rfl⟩
    have hpb : p ≤ 700 := by omega
    have H : PwH m e k h p dg := by
      refine ⟨hp.symm, hupd, ?_, ?_, hpb⟩
      · exact Rat.le_trans (Rat.neg_le_neg (dq_anti (by omega))) tp1
      · exact Rat.le_trans tp2 (dq_anti (by omega))
    have g4 := fun x W h => dtop_any m e x W h (by omega) (by omega) (dv_zero hv)
    have g5 := fun x W hx (hW : Below w.heap.size w W) => dshift_any m e (-(h : Int)) x W hx (by omega) (by omega) (by omega) (HT.out W hW)
    have hr5 : mkR m (e + -(h : Int)) = 0 := mk_fits2 (by omega) (by omega) (by omega)
    rw [hr5] at g5
    have hz5 := zl_mk m (e + -(h : Int))
    have he5 := mkE_at hr5 (k := 100) (by omega)
    have hd5 := dq_mk hr5
    have g6 := fun x W hx (hW : Below w.heap.size w W) => gnear_any (mkM m (e + -(h : Int))) (mkE m (e + -(h : Int))) (p : Int) x W hx (by omega) (by omega) (by omega) (by omega) (HT.out W hW)
    have hpm : permB (p : Int) = true := by
      unfold permB
      rw [decide_eq_true (show (-2048 : Int) ≤ (p : Int) by omega), decide_eq_true (show (p : Int) ≤ 8192 by omega)]
      rfl
    rw [hd5, show (cutQ (dq m (e + -(h : Int))) ((p : Int) + 1) + 1) / 2 = nrX m e h p from rfl] at g6
    obtain ⟨gy1, gy2, gy3⟩ := g_yes hpm (nrX m e h p)
    obtain ⟨x1, x2, x3, x4, x5⟩ := H.arg
    have hXp : AbP (nrX m e h p) p := by
      unfold AbP
      have : (nrX m e h p).natAbs * 1 ≤ (nrX m e h p).natAbs * 2 ^ 32 := Nat.mul_le_mul_left _ (by decide)
      omega
    obtain ⟨nx1, nx2, nx3, nx4, nx5⟩ := np hXp (by omega) (show p ≤ 3000 by omega)
    rw [gy1, gy2, gy3, nx1] at g6
    have g7 := fun (A : Option Addr) (c : Nat) (W : World) (hW : Below w.heap.size w W) (hx : IsN W (.slice A (zl (mkM (nrX m e h p) (-(p : Int)))) c) (mkM (nrX m e h p) (-(p : Int))).natAbs) => xsum_any 111 hen (nrX m e h p) p (.agg #[.bool (ng (mkM (nrX m e h p) (-(p : Int)))), .slice A (zl (mkM (nrX m e h p) (-(p : Int)))) c, .int .i64 (mkE (nrX m e h p) (-(p : Int))), .int .i64 (p : Int)]) W x1 hpb (HT.out W hW) (fun k T vt W2 ht hTa hk1 hk2 hW2 => xnext_any (nrX m e h p) T p k A c vt W2 (hx.mono hW2) ht hXp hTa (sq_AbP x1 hTa (by omega)) hpb hk1 (by omega) ((HT.out W hW).mono hW2))
    clear gy1 gy2 gy3 nx1 nx2 nx3 nx4 nx5 hd5 he5 hz5 hr5 hcl hcl2 hupd hhi hnear tp1 tp2 x1 x2 x3 x4 x5 hXp hpm
    obtain ⟨Tz, hTz⟩ : ∃ z, topZ m e = z := ⟨_, rfl⟩
    rw [hTz] at g4 hh htl htl2
    have hhb : h ≤ 77 := by omega
    have w1 : IntKind.i64.wrap (Tz + 64) = Tz + 64 := by rw [IntKind.wrap_i64]; omega
    have w2 : IntKind.i64.wrap ((k : Int) + 32) = (k : Int) + 32 := by rw [IntKind.wrap_i64]; omega
    have w3 : IntKind.i64.wrap ((k : Int) + 32 + (h : Int)) = (k : Int) + 32 + (h : Int) := by rw [IntKind.wrap_i64]; omega
    have w4 : IntKind.i64.wrap ((k : Int) + 32 + (h : Int) + (dg : Int)) = (p : Int) := by rw [IntKind.wrap_i64]; omega
    have w5 : IntKind.i64.wrap (-(h : Int)) = -(h : Int) := by rw [IntKind.wrap_i64]; omega
    have HH := Lib.hid H
    have HP := Lib.hid (And.intro hpb (And.intro hhb hdgb))
    clear H hTz hdg hp hpb hdgb htl htl2 hhb
    obtain ⟨X, hX⟩ : ∃ z, nrX m e h p = z := ⟨_, rfl⟩
    rw [hX] at g6 g7
    have HX := Lib.hid hX
    clear hX
    generalize mkM X (-(p : Int)) = Mx at *
    generalize mkE X (-(p : Int)) = Ex at *
    generalize mkM m (e + -(h : Int)) = M1 at *
    generalize mkE m (e + -(h : Int)) = E1 at *
    have G3 := Lib.hid g3
    have G4 := Lib.hid g4
    have G5 := Lib.hid g5
    have G6 := Lib.hid g6
    have G7 := Lib.hid g7
    clear g3 g4 g5 g6 g7 hv lm he
    go_enter Tryz.func58, Tryz.ntmps58
    have L := ((L0.varD (w.heap.size) (by simp) (ng m) A (zl m) c e).varD (w.heap.size + 1) (by simp) false none 0 0 0)
    (try go_wp2_with fail)
    replace L := L.drew
    have c10 := L.tl.b0.c30
    have c11 := L.tl.b0.c31
    have c12 := L.tl.b0.c32
    go_region_held3 (fun w' => w'.cell? ⟨w.heap.size, 0, none⟩ = some (.bool (ng m)) ∧ w'.cell? ⟨w.heap.size, 1, none⟩ = some (.slice A (zl m) c) ∧ w'.cell? ⟨w.heap.size, 2, none⟩ = some (.int .i64 e)) (first | (with_reducible exact ⟨L.tl.b0.c30, L.tl.b0.c31, L.tl.b0.c32⟩) | exact ⟨L.tl.b0.c30, L.tl.b0.c31, L.tl.b0.c32⟩) (first | (go_at_call 57; (with_reducible refine (G1.out _ ?_ ).mono ?_); (· exact L.below); rintro e wh ⟨vh, rfl, id, be⟩; obtain ⟨A1, c1, rfl, _, in9⟩ := id.form; replace L := (L.step be).n in9; clear be id in9) | (go_at_call 56; (with_reducible refine (G2.out _ _ _ ?_ ?_ ).mono ?_); (· (refine isD_n (L.getN ?_); (repeat (first | (with_reducible exact List.mem_cons_self) | apply List.mem_cons_of_mem)))); (· (refine isD_n (L.getN ?_); (repeat (first | (with_reducible exact List.mem_cons_self) | apply List.mem_cons_of_mem)))); rintro e wh ⟨rfl, be⟩; replace L := L.step be; clear be))
    clear c10 c11 c12
    have c10 := L.tl.b0.c30
    have c11 := L.tl.b0.c31
    have c12 := L.tl.b0.c32
    (try go_wp2_with fail)
    refine (G4.out _ _ (isD_n (m := m) (e := e) (s := .slice A (zl m) c) (L.getN (by simp)))).mono ?_
    rintro e w1 ⟨rfl, be⟩
    clear c10 c11 c12
    replace L := L.step be
    clear be
    have c10 := L.tl.b0.c30
    have c11 := L.tl.b0.c31
    have c12 := L.tl.b0.c32
    (try go_wp2_with fail)
    refine (G3.out _ _ (isD_n (m := m) (e := e) (s := .slice A (zl m) c) (L.getN (by simp))) L.below).mono ?_
    rintro e w2 ⟨rfl, be⟩
    clear c10 c11 c12
    replace L := L.step be
    clear be
    have c10 := L.tl.b0.c30
    have c11 := L.tl.b0.c31
    have c12 := L.tl.b0.c32
    (try go_wp2_with fail)
    refine (G5.out _ _ (isD_n (m := m) (e := e) (s := .slice A (zl m) c) (L.getN (by simp))) L.below).mono ?_
    rintro e w3 ⟨v9, rfl, iz, be⟩
    clear c10 c11 c12
    obtain ⟨A2, c2, rfl, _, in9⟩ := iz.form
    replace L := (L.step be).n in9
    clear be iz in9
    have hl9 := L.b0.lt
    replace L := L.varD w3.heap.size rfl (ng M1) A2 (zl M1) c2 E1
    have c00 := L.b0.c30
    have c01 := L.b0.c31
    have c02 := L.b0.c32
    go_wp2_with fail
    clear c00 c01 c02
    obtain ⟨g1, hg1⟩ : ∃ g9, w3.heap.size = g9 := ⟨_, rfl⟩
    rw [hg1] at L hl9 ⊢
    clear hg1
    have hl_g1 := hl9
    clear hl9
    refine (G6.out _ _ (isD_n (m := M1) (e := E1) (s := .slice A2 (zl M1) c2) (L.getN (by simp))) L.below).mono ?_
    rintro e w4 ⟨v9, rfl, iz, be⟩
    obtain ⟨A3, c3, rfl, _, in9⟩ := iz.form
    replace L := (L.step be).n in9
    clear be iz in9
    have c00 := L.b0.c30
    have f00 := L.b0.fr 0
    have c01 := L.b0.c31
    have f01 := L.b0.fr 1
    have c02 := L.b0.c32
    have f02 := L.b0.fr 2
    have P := L.putD (by omega) (by simp; omega) (ng Mx) A3 (zl Mx) c3 Ex
    have p0 := P.b0.c30
    have p1 := P.b0.c31
    have p2 := P.b0.c32
    unfold put3 at p0 p1 p2 P
    go_wp2_with fail
    replace L := P
    clear P p0 p1 p2
    clear c00 f00 c01 f01 c02 f02
    refine (G7.out A3 c3 _ L.below (L.getN (by simp))).mono ?_
    rintro e w5 ⟨S, kk, hR, v9, rfl, iz, be⟩
    obtain ⟨A4, c4, rfl, _, in9⟩ := iz.form
    replace L := (L.step be).n in9
    clear be iz in9
    have hl9 := L.b0.lt
    rw [← HX.out] at hR
    have HL0 := PwL.first HH.out hR
    obtain ⟨Ms, hMs⟩ : ∃ z, mkM S (-(p : Int)) = z := ⟨_, rfl⟩
    obtain ⟨Es, hEs⟩ : ∃ z, mkE S (-(p : Int)) = z := ⟨_, rfl⟩
    rw [hMs] at L ⊢
    rw [hEs]
    have HL := Lib.hid (And.intro HL0 (And.intro hMs hEs))
    clear HL0 hMs hEs hR HX G1 G2 G3 G4 G5 G6 G7
    replace L := L.varD w5.heap.size rfl (ng Ms) A4 (zl Ms) c4 Es
    have c00 := L.b0.c30
    have c01 := L.b0.c31
    have c02 := L.b0.c32
    go_wp2_with fail
    clear c00 c01 c02
    obtain ⟨g2, hg2⟩ : ∃ g9, w5.heap.size = g9 := ⟨_, rfl⟩
    rw [hg2] at L hl9 ⊢
    clear hg2
    have hl_g2 := hl9
    clear hl9
    go_loopw [45] (fun i wr => ∃ (j : Nat) (s Ms Es : Int) (A4 : Option Addr) (c4 : Nat), i = .int .i64 (j : Int) ∧ Lq w wr [(.slice A4 (zl Ms) c4, Ms.natAbs)] [] [] [(g2, 26, #[.bool (ng Ms), .slice A4 (zl Ms) c4, .int .i64 Es]), (w.heap.size + 1, 26, #[.bool false, .slice none 0 0, .int .i64 0])] ∧ Hid (PwL m e h p j s ∧ mkM s (-(p : Int)) = Ms ∧ mkE s (-(p : Int)) = Es)) (fun i _ => 100 - (intOf i).toNat)
    case atStart => exact ⟨0, S, Ms, Es, A4, c4, by go_num, L.subx (by simp) (by simp), HL⟩
    case round =>
      clear L HL
      obtain ⟨j, s, Ms, Es, A4, c4, rfl, L, HL⟩ := hrel
      obtain ⟨hI, hM, hE⟩ := HL.out
      obtain ⟨hpb, hhb, hdgb⟩ := HP.out
      have hjh := hI.1
      have hsz := hI.size HH.out
      have hl0 := L.b0.lt
      rcases Nat.eq_or_lt_of_le hjh with rfl | hj3
      · have hlt : ¬ (j : Int) < (j : Int) := by omega
        obtain ⟨r1, r2, r3⟩ := hI.last HH.out
        clear HL hI
        replace L := L.swap
        have cel00 := L.b0.c30
        have f00 := L.b0.fr 0
        have cel01 := L.b0.c31
        have f01 := L.b0.fr 1
        have cel02 := L.b0.c32
        have f02 := L.b0.fr 2
        have cel10 := L.tl.b0.c30
        have cel11 := L.tl.b0.c31
        have cel12 := L.tl.b0.c32
        go_wp2_with fail
        clear cel00 f00 cel01 f01 cel02 f02 cel10 cel11 cel12
        subst hM hE
        have LP := L.putD (by omega) (by first | (simp; done) | (simp; omega)) (ng (mkM s (-(p : Int)))) A4 (zl (mkM s (-(p : Int)))) c4 (mkE s (-(p : Int)))
        have k0 := LP.b0.c30
        have k1 := LP.b0.c31
        have k2 := LP.b0.c32
        unfold put3 at k0 k1 k2
        exact bodyPost_ret (v := .agg #[.bool (ng (mkM s (-(p : Int)))), .slice A4 (zl (mkM s (-(p : Int)))) c4, .int .i64 (mkE s (-(p : Int)))]) (by simp [results, Tryz.results58, go_sem, k0, k1, k2]) rfl ⟨s, p, hpb, hsz.up (by omega), r1, r2, r3, _, rfl, isD_n (LP.getN (by simp)), LP.below⟩
      · have hlt : (j : Int) < (h : Int) := by omega
        have hI2 := hI.step hj3
        obtain ⟨M4, hM4⟩ : ∃ z, mkM (mkM s (-(p : Int)) * mkM s (-(p : Int))) (mkE s (-(p : Int)) + mkE s (-(p : Int))) = z := ⟨_, rfl⟩
        obtain ⟨E4, hE4⟩ : ∃ z, mkE (mkM s (-(p : Int)) * mkM s (-(p : Int))) (mkE s (-(p : Int)) + mkE s (-(p : Int))) = z := ⟨_, rfl⟩
        obtain ⟨a1, a2, a3, a4, a5⟩ := np hsz (by omega) (show p ≤ 3000 by omega)
        obtain ⟨m1, m2, m3, m4, m5, m6⟩ := np_mul hsz hsz (by omega) (by omega) (show p ≤ 1400 by omega) M4 E4 hM4 hE4
        have g8 := fun x y W h j (hW : Below w.heap.size w W) => dmul_any (mkM s (-(p : Int))) (mkE s (-(p : Int))) (mkM s (-(p : Int))) (mkE s (-(p : Int))) x y W h j (by omega) (by omega) (by omega) (by omega) (HT.out W hW)
        rw [hM4, hE4, m1, hM, hE] at g8
        have g9 := fun x W h (hW : Below w.heap.size w W) => gfloor_any M4 E4 (p : Int) x W h (by omega) (by omega) (by omega) (by omega) (HT.out W hW)
        rw [m4, m5, m6] at g9
        obtain ⟨s2, hs2⟩ : ∃ z, s * s / 2 ^ p = z := ⟨_, rfl⟩
        rw [hs2] at g9 hI2
        obtain ⟨M2, hM2⟩ : ∃ z, mkM s2 (-(p : Int)) = z := ⟨_, rfl⟩
        obtain ⟨E2, hE2⟩ : ∃ z, mkE s2 (-(p : Int)) = z := ⟨_, rfl⟩
        rw [hM2, hE2] at g9
        have G8 := Lib.hid g8
        have G9 := Lib.hid g9
        have HQ := Lib.hid (And.intro hI2 (And.intro hM2 hE2))
        have w9 : IntKind.i64.wrap ((j : Int) + 1) = (j : Int) + 1 := by rw [IntKind.wrap_i64]; omega
        clear g8 g9 a1 a2 a3 a4 a5 m1 m2 m3 m4 m5 m6 hM hE hM2 hE2 hs2 hI2 hM4 hE4 hI HL hsz
        have cel00 := L.b0.c30
        have f00 := L.b0.fr 0
        have cel01 := L.b0.c31
        have f01 := L.b0.fr 1
        have cel02 := L.b0.c32
        have f02 := L.b0.fr 2
        go_wp2_with fail
        refine (G8.out _ _ _ (isD_n (m := Ms) (e := Es) (s := .slice A4 (zl Ms) c4) (L.getN (by simp))) (isD_n (m := Ms) (e := Es) (s := .slice A4 (zl Ms) c4) (L.getN (by simp))) L.below).mono ?_
        rintro e w31 ⟨v9, rfl, iz, be⟩
        clear cel00 f00 cel01 f01 cel02 f02
        obtain ⟨A5, c5, rfl, _, in9⟩ := iz.form
        replace L := (L.step be).n in9
        clear be iz in9
        have cel00 := L.b0.c30
        have f00 := L.b0.fr 0
        have cel01 := L.b0.c31
        have f01 := L.b0.fr 1
        have cel02 := L.b0.c32
        have f02 := L.b0.fr 2
        have P := L.putD (by omega) (by simp; omega) (ng M4) A5 (zl M4) c5 E4
        have p0 := P.b0.c30
        have p1 := P.b0.c31
        have p2 := P.b0.c32
        unfold put3 at p0 p1 p2 P
        go_wp2_with fail
        replace L := P
        clear P p0 p1 p2
        clear cel00 f00 cel01 f01 cel02 f02
        refine (G9.out _ _ (isD_n (m := M4) (e := E4) (s := .slice A5 (zl M4) c5) (L.getN (by simp))) L.below).mono ?_
        rintro e w32 ⟨v9, rfl, iz, be⟩
        obtain ⟨A6, c6, rfl, _, in9⟩ := iz.form
        replace L := (L.step be).n in9
        clear be iz in9
        have cel00 := L.b0.c30
        have f00 := L.b0.fr 0
        have cel01 := L.b0.c31
        have f01 := L.b0.fr 1
        have cel02 := L.b0.c32
        have f02 := L.b0.fr 2
        have P := L.putD (by omega) (by simp; omega) (ng M2) A6 (zl M2) c6 E2
        unfold put3 at P
        go_wp2_with fail
        go_roundw
        case rel => exact ⟨j + 1, s2, M2, E2, A6, c6, by go_num, P.subx (by simp) (by simp), HQ⟩
        case measure => simp [intOf]; omega

/-- What Exp returns: an interval from a to b in units of 2^-k. -/
def RetEp (w : World) (k : Nat) (m e n f : Int) (en : Ending) (w' : World) : Prop := ∃ a b : Int, (0 ≤ a ∧ AbP a (k + 302) ∧ LoE (dq a (-(k : Int))) (dq m e) ∧ UpE (dq m e) (dq a (-(k : Int)) + 2 * dq 1 (-(k : Int)))) ∧
  (AbP b (k + 302) ∧ LoE (dq b (-(k : Int)) - 2 * dq 1 (-(k : Int))) (dq n f) ∧ UpE (dq n f) (dq b (-(k : Int)))) ∧ RetIE w (mkM a (-(k : Int))) (mkE a (-(k : Int))) (mkM b (-(k : Int))) (mkE b (-(k : Int))) 0 en w'
theorem twoM (k : Nat) : 2 * dq 1 (-((k : Int) + 20)) ≤ dq 1 (-(k : Int)) := by
  have h := dq_anti (a := -((k : Int) + 20)) (b := -(k : Int) + -1) (by omega)
  rw [dq_add1] at h
  have v : dq 1 (-1) = 1 / 2 := by decide +kernel
  rw [v] at h
  generalize dq 1 (-((k : Int) + 20)) = M at *
  generalize dq 1 (-(k : Int)) = u at *
  grind
theorem up200 {x : Rat} (h : x ≤ 200) : UpE x (dq 1 300) := by
  have h2 : x ≤ ((200 : Int) : Rat) := h
  have := dg_up h2
  exact this
theorem unit_up (k j : Nat) : dq 1 (j : Int) = dq (2 ^ (k + j)) (-(k : Int)) := by
  refine dq_eq (F := -(k : Int)) ?_ (by omega) (by omega)
  rw [show ((j : Int) - -(k : Int)).toNat = k + j by omega, show (-(k : Int) - -(k : Int)).toNat = 0 by omega]
  simp
theorem ep_lo {k : Nat} {q x Q : Rat} (h1 : LoE (q - dq 1 (-((k : Int) + 20))) x) (h2 : UpE x (q + dq 1 (-((k : Int) + 20)))) (hx : x ≤ 200) (hQ : (Q = 0 ∧ q - dq 1 (-((k : Int) + 20)) < 0) ∨ (Q = q - dq 1 (-((k : Int) + 20)) ∧ 0 ≤ Q)) :
    0 ≤ cutQ Q (k : Int) ∧ AbP (cutQ Q (k : Int)) (k + 302) ∧ LoE (dq (cutQ Q (k : Int)) (-(k : Int))) x ∧ UpE x (dq (cutQ Q (k : Int)) (-(k : Int)) + 2 * dq 1 (-(k : Int))) := by
  have hM := dq_pos (-((k : Int) + 20))
  have h2M := twoM k
  have c1 := cut_lo Q (k : Int)
  have c2 := cut_hi Q (k : Int)
  have hB := up200 hx
  have l0 : LoE Q x := by
    rcases hQ with ⟨e, _⟩ | ⟨e, _⟩
    · rw [e]; exact LoE.zero x
    · rw [e]; exact h1
  have hQ0 : 0 ≤ Q := by
    rcases hQ with ⟨e, _⟩ | ⟨_, e⟩
    · rw [e]; exact Rat.le_refl
    · exact e
  have u0 : UpE x (Q + 2 * dq 1 (-((k : Int) + 20))) := by
    refine h2.up ?_
    generalize dq 1 (-((k : Int) + 20)) = M at *
    clear h1 h2 hB c1 c2 l0
    rcases hQ with ⟨e, e2⟩ | ⟨e, e2⟩ <;> grind
  have hl := l0.down c1
  have a0 : 0 ≤ cutQ Q (k : Int) := by
    unfold cutQ
    refine Rat.le_floor_iff.2 ?_
    exact Rat.mul_nonneg hQ0 (Rat.le_of_lt (dq_pos _))
  refine ⟨a0, ?_, hl, u0.up ?_⟩
  · have h3 := hl.le hB
    rw [show (300 : Int) = ((300 : Nat) : Int) from rfl, unit_up k 300] at h3
    have h4 := (dq_le_iff _ _ _).1 h3
    have eP : (((2 : Nat) ^ (k + 300) : Nat) : Int) = 2 ^ (k + 300) := by simp
    rw [← eP] at h4
    have h5 := Nat.pow_le_pow_right (n := 2) (by omega) (show k + 300 ≤ k + 302 by omega)
    unfold AbP
    omega
  · generalize dq 1 (-((k : Int) + 20)) = M at *
    generalize dq 1 (-(k : Int)) = u at *
    generalize dq (cutQ Q (k : Int)) (-(k : Int)) = A at *
    clear h1 h2 hB c1 l0 hl u0 hQ
    grind
theorem ep_hi {k : Nat} {q x : Rat} (h1 : LoE (q - dq 1 (-((k : Int) + 20))) x) (h2 : UpE x (q + dq 1 (-((k : Int) + 20)))) (hx : x ≤ 200) :
    AbP (-(cutQ (-(q + dq 1 (-((k : Int) + 20)))) (k : Int))) (k + 302) ∧ LoE (dq (-(cutQ (-(q + dq 1 (-((k : Int) + 20)))) (k : Int))) (-(k : Int)) - 2 * dq 1 (-(k : Int))) x ∧ UpE x (dq (-(cutQ (-(q + dq 1 (-((k : Int) + 20)))) (k : Int))) (-(k : Int))) := by
  have hM := dq_pos (-((k : Int) + 20))
  have h2M := twoM k
  have c1 := cut_lo (-(q + dq 1 (-((k : Int) + 20)))) (k : Int)
  have c2 := cut_hi (-(q + dq 1 (-((k : Int) + 20)))) (k : Int)
  have hB := up200 hx
  obtain ⟨b, hb⟩ : ∃ b, -(cutQ (-(q + dq 1 (-((k : Int) + 20)))) (k : Int)) = b := ⟨_, rfl⟩
  rw [show cutQ (-(q + dq 1 (-((k : Int) + 20)))) (k : Int) = -b by omega, dq_neg] at c1 c2
  rw [hb]
  have hu : UpE x (dq b (-(k : Int))) := by
    refine h2.up ?_
    generalize dq 1 (-((k : Int) + 20)) = M at *
    generalize dq b (-(k : Int)) = B at *
    clear h1 h2 hB c2
    grind
  have hl : LoE (dq b (-(k : Int)) - 2 * dq 1 (-(k : Int))) x := by
    refine h1.down ?_
    generalize dq 1 (-((k : Int) + 20)) = M at *
    generalize dq b (-(k : Int)) = B at *
    generalize dq 1 (-(k : Int)) = u at *
    clear h1 h2 hB c1 hu
    grind
  refine ⟨?_, hl, hu⟩
  have h3 := hl.le hB
  rw [show (300 : Int) = ((300 : Nat) : Int) from rfl, unit_up k 300] at h3
  have e2 : dq b (-(k : Int)) - 2 * dq 1 (-(k : Int)) = dq (b - 2) (-(k : Int)) := by
    rw [dq_scale b, dq_scale (b - 2), Rat.intCast_sub, show ((2 : Int) : Rat) = 2 from rfl]
    generalize dq 1 (-(k : Int)) = u at *
    grind
  rw [e2] at h3
  have h4 := (dq_le_iff _ _ _).1 h3
  have eP : (((2 : Nat) ^ (k + 300) : Nat) : Int) = 2 ^ (k + 300) := by simp
  rw [← eP] at h4
  have h5 : 2 ^ (k + 302) = 2 ^ (k + 300) * 4 := by rw [show k + 302 = k + 300 + 2 by omega, Nat.pow_add]
  have h6 := Nat.pow_pos (n := k + 300) (show 0 < 2 by omega)
  have h7 := hu.pos
  have h8 : 0 < b := by
    refine Int.not_le.1 fun hle => ?_
    have := (dq_le_iff b 0 (-(k : Int))).2 hle
    rw [dq_zero] at this
    exact absurd h7 (Rat.not_lt.2 this)
  unfold AbP
  omega
/-- A number in units of 2^-p, and 2^-j more or less. -/
theorem ep_sum {s : Int} {p j : Nat} (t : Int) (h : AbP s 1100) (hp : p ≤ 700) (hj : j ≤ 300) (ht : t = 1 ∨ t = -1) (M E : Int)
    (hM : mkM (addS (mkM s (-(p : Int))) (mkE s (-(p : Int))) (t * mkM 1 (-(j : Int))) (mkE 1 (-(j : Int)))) (min (mkE s (-(p : Int))) (mkE 1 (-(j : Int)))) = M)
    (hE : mkE (addS (mkM s (-(p : Int))) (mkE s (-(p : Int))) (t * mkM 1 (-(j : Int))) (mkE 1 (-(j : Int)))) (min (mkE s (-(p : Int))) (mkE 1 (-(j : Int)))) = E) :
    mkR (addS (mkM s (-(p : Int))) (mkE s (-(p : Int))) (t * mkM 1 (-(j : Int))) (mkE 1 (-(j : Int)))) (min (mkE s (-(p : Int))) (mkE 1 (-(j : Int)))) = 0 ∧ dq M E = dq s (-(p : Int)) + (t : Rat) * dq 1 (-(j : Int)) ∧ zl M ≤ 400 ∧ (-15000 ≤ E ∧ E ≤ 15000) ∧ Dv M E := by
  obtain ⟨a1, a2, a3, a4, a5⟩ := np h (by omega) (show p ≤ 3000 by omega)
  obtain ⟨b1, b2, b3, b4, b5⟩ := np (T := 1) (j := 0) (by unfold AbP; decide) (by omega) (show j ≤ 3000 by omega)
  have hz1 : zl (t * mkM 1 (-(j : Int))) = zl (mkM 1 (-(j : Int))) := by
    rcases ht with rfl | rfl
    · rw [Int.one_mul]
    · rw [Int.neg_mul, Int.one_mul]; exact zl_neg _
  have hz := zl_addS (mkM s (-(p : Int))) (mkE s (-(p : Int))) (t * mkM 1 (-(j : Int))) (mkE 1 (-(j : Int))) 3000 (by omega) (by omega)
  rw [hz1] at hz
  have hr : mkR (addS (mkM s (-(p : Int))) (mkE s (-(p : Int))) (t * mkM 1 (-(j : Int))) (mkE 1 (-(j : Int)))) (min (mkE s (-(p : Int))) (mkE 1 (-(j : Int)))) = 0 := mk_fits9 (by omega) (by omega) (by omega)
  have hd := dq_mk hr
  have hv := mk_ok hr
  have hz2 := zl_mk (addS (mkM s (-(p : Int))) (mkE s (-(p : Int))) (t * mkM 1 (-(j : Int))) (mkE 1 (-(j : Int)))) (min (mkE s (-(p : Int))) (mkE 1 (-(j : Int))))
  have he := mkE_at hr (k := 400) (by omega)
  rw [hM] at hd hv hz2
  rw [hE] at hd hv he
  refine ⟨hr, ?_, by omega, by omega, hv⟩
  rw [hd, dq_add, a5]
  have e : dq (t * mkM 1 (-(j : Int))) (mkE 1 (-(j : Int))) = (t : Rat) * dq 1 (-(j : Int)) := by
    rw [dq_scale, Rat.intCast_mul, Rat.mul_assoc, ← dq_scale, b5]
  rw [e]


theorem abs_floor (y : Int) {n : Int} (hn : 0 < n) : (y / n).natAbs ≤ y.natAbs := by
  rcases Int.lt_or_le y 0 with h | h
  · have h1 : y / n < 0 := Int.ediv_neg_of_neg_of_pos h hn
    have h2 : y ≤ y / n := by
      rw [Int.le_ediv_iff_mul_le hn]
      have := Int.mul_le_mul_of_nonneg_left (show (1 : Int) ≤ n by omega) (show 0 ≤ -y by omega)
      rw [Int.mul_one, Int.neg_mul] at this
      omega
    omega
  · have h1 := Int.ediv_nonneg h (show 0 ≤ n by omega)
    have h2 := Int.ediv_le_self n h
    omega
/-- A slice of integers: what its elements stand for. -/
def RowZ (w : World) (v : Value) (l : List Int) : Prop := ∃ g c, v = .slice (some ⟨g, 0, none⟩) l.length c ∧ g < w.heap.size ∧ ∀ (j : Nat) (p : Int), l[j]? = some p → ∃ A c, w.cell? ⟨g, 2 * j, none⟩ = some (.bool (ng p)) ∧ w.cell? ⟨g, 2 * j + 1, none⟩ = some (.slice A (zl p) c) ∧ IsZ w (.agg #[.bool (ng p), .slice A (zl p) c]) p
theorem RowZ.mono {w w' : World} {v : Value} {l : List Int} (h : RowZ w v l) (hb : Below w.heap.size w w') : RowZ w' v l := by
  obtain ⟨g, c, r, hg, h⟩ := h
  refine ⟨g, c, r, Nat.lt_of_lt_of_le hg hb.size, fun j p hp => ?_⟩
  obtain ⟨A, c, h1, h2, h3⟩ := h j p hp
  exact ⟨A, c, (hb.cell (p := ⟨g, 2 * j, none⟩) hg).trans h1, (hb.cell (p := ⟨g, 2 * j + 1, none⟩) hg).trans h2, h3.mono hb⟩
def LoopZ (l : List Int) (t : Nat) (a1 a2 : Int) : Prop := a1 ∈ l ∧ a2 ∈ l ∧ ∀ (j : Nat) (p : Int), j < t → l[j]? = some p → a1 ≤ p ∧ p ≤ a2
theorem LoopZ.step {l : List Int} {t : Nat} {a1 a2 a b1 b2 : Int} (h : LoopZ l t a1 a2) (hp : l[t]? = some a) (m1 : b1 ∈ l) (m2 : b2 ∈ l) (x1 : b1 ≤ a1) (x2 : b1 ≤ a) (y1 : a2 ≤ b2) (y2 : a ≤ b2) : LoopZ l (t + 1) b1 b2 := by
  refine ⟨m1, m2, fun j p hj hjp => ?_⟩
  rcases Nat.lt_or_ge j t with h1 | h1
  · have := h.2.2 j p h1 hjp
    exact ⟨Int.le_trans x1 this.1, Int.le_trans this.2 y1⟩
  · obtain rfl : j = t := by omega
    rw [hp] at hjp
    obtain rfl := Option.some.inj hjp
    exact ⟨x2, y2⟩
theorem LoopZ.all {l : List Int} {a1 a2 : Int} {n : Nat} (hn : l.length = n) (h : LoopZ l n a1 a2) : (∀ q ∈ l, a1 ≤ q) ∧ ∀ q ∈ l, q ≤ a2 := by
  constructor <;> intro q hq <;> obtain ⟨j, hj, e⟩ := List.getElem_of_mem hq
  · exact (h.2.2 j q (by omega) (by rw [← e]; exact List.getElem?_eq_getElem hj)).1
  · exact (h.2.2 j q (by omega) (by rw [← e]; exact List.getElem?_eq_getElem hj)).2
theorem AbP.fl {x n : Int} {j : Nat} (h : AbP x j) (hn : 0 < n) : AbP (x / n) j := Nat.le_trans (abs_floor x hn) h
theorem AbP.cd {x n : Int} {j : Nat} (h : AbP x j) (hn : 0 < n) : AbP (cdv x n) j := (h.neg.fl hn).neg
theorem AbP.mn4 {a b c d : Int} {j : Nat} (h1 : AbP a j) (h2 : AbP b j) (h3 : AbP c j) (h4 : AbP d j) : AbP (mn4 a b c d) j := by
  unfold AbP Go.Proofs.YtnnfldkllhdhjaaGreatDoor.mn4 at *
  omega
theorem AbP.mx4 {a b c d : Int} {j : Nat} (h1 : AbP a j) (h2 : AbP b j) (h3 : AbP c j) (h4 : AbP d j) : AbP (mx4 a b c d) j := by
  unfold AbP Go.Proofs.YtnnfldkllhdhjaaGreatDoor.mx4 at *
  omega
theorem AbP.shr {x : Int} {j v : Nat} (h : AbP x (j + v)) : AbP (x / 2 ^ v) j := by
  unfold AbP at *
  have hp := pow2_pos v
  rw [Nat.pow_add] at h
  have e : (((2 : Nat) ^ v : Nat) : Int) = 2 ^ v := by simp
  obtain ⟨Q, hQ⟩ : ∃ Q : Nat, 2 ^ j = Q := ⟨_, rfl⟩
  obtain ⟨P, hP⟩ : ∃ P : Nat, 2 ^ v = P := ⟨_, rfl⟩
  rw [hQ, hP] at h
  rw [hQ]
  rw [hP] at e
  rw [← e] at hp ⊢
  have h2 : ((x.natAbs : Nat) : Int) ≤ (Q : Int) * (P : Int) := by exact_mod_cast h
  have h3 : x / (P : Int) ≤ (Q : Int) := Int.ediv_le_of_le_mul hp (by omega)
  have h4 : -(Q : Int) ≤ x / (P : Int) := (Int.le_ediv_iff_mul_le hp).2 (by rw [Int.neg_mul]; omega)
  omega
theorem AbP.cshr {x : Int} {j v : Nat} (h : AbP x (j + v)) : AbP (cdv x (2 ^ v)) j := by
  have := (AbP.shr (x := -x) h.neg).neg
  exact this
/-- A round of the series: the number of rounds t, the fuel f, the term's span (a, b), the sum's span (p, q). -/
structure ExS (v f t : Nat) (y : Rat) (a b p q : Int) : Prop where
  tf : t + f = v
  tm : SpC a b v (tm t y)
  sm : SpC p q v (esm (t + 1) y)
  aa : AbP a f
  bb : AbP b f
  pp : p.natAbs + 2 ^ f ≤ 2 ^ (v + 1)
  qq : q.natAbs + 2 ^ f ≤ 2 ^ (v + 1)
theorem ExS.first (v : Nat) (y : Rat) : ExS v v 0 y (2 ^ v) (2 ^ v) (2 ^ v) (2 ^ v) := by
  have h := SpC.of 1 v
  rw [Int.one_mul, show ((1 : Int) : Rat) = 1 from rfl] at h
  have e : ((2 : Int) ^ v).natAbs = 2 ^ v := by rw [Int.natAbs_pow]; rfl
  have h2 : ((2 : Int) ^ v).natAbs + 2 ^ v ≤ 2 ^ (v + 1) := by rw [e, Nat.pow_succ]; omega
  refine ⟨by omega, h, ?_, Nat.le_of_eq e, Nat.le_of_eq e, h2, h2⟩
  rwa [show esm (0 + 1) y = 1 from by show (0 : Rat) + 1 = 1; grind]
theorem ExS.step {v f t : Nat} {y : Rat} {a b p q c d A B : Int} (h : ExS v f t y a b p q) (hy : SpC c d v y) (hc : AbP c (v - 1)) (hd : AbP d (v - 1)) (ht : tnB a b = false)
    (eA : mn4 (a * c) (a * d) (b * c) (b * d) / 2 ^ v = A) (eB : cdv (mx4 (a * c) (a * d) (b * c) (b * d)) (2 ^ v) = B) :
    ∃ g, f = g + 1 ∧ AbP A g ∧ AbP B g ∧ ExS v g (t + 1) y (A / ((t + 1 : Nat) : Int)) (cdv B ((t + 1 : Nat) : Int)) (p + A / ((t + 1 : Nat) : Int)) (q + cdv B ((t + 1 : Nat) : Int)) := by
  have hf : 0 < f := by
    rcases Nat.eq_zero_or_pos f with rfl | h0
    · have h1 := h.aa
      have h2 := h.bb
      unfold AbP at h1 h2
      rw [Nat.pow_zero] at h1 h2
      unfold tnB at ht
      rw [decide_eq_true h1, decide_eq_true h2] at ht
      cases ht
    · exact h0
  obtain ⟨g, rfl⟩ : ∃ g, f = g + 1 := ⟨f - 1, by omega⟩
  have tf := h.tf
  have hm : ∀ x z : Int, AbP x (g + 1) → AbP z (v - 1) → AbP (x * z) (g + v) := fun x z h1 h2 => by
    have := h1.mul h2
    rwa [show g + 1 + (v - 1) = g + v by omega] at this
  have m1 := hm a c h.aa hc
  have m2 := hm a d h.aa hd
  have m3 := hm b c h.bb hc
  have m4 := hm b d h.bb hd
  have hA : AbP A g := by rw [← eA]; exact (AbP.mn4 m1 m2 m3 m4).shr
  have hB : AbP B g := by rw [← eB]; exact (AbP.mx4 m1 m2 m3 m4).cshr
  have n0 : (0 : Int) < ((t + 1 : Nat) : Int) := by omega
  have sp : SpC A B v (Go.Proofs.YtnnfldkllhdhjaaGreatDoor.tm t y * y) := by rw [← eA, ← eB]; exact h.tm.mul hy
  have so := sp.over n0
  rw [show Go.Proofs.YtnnfldkllhdhjaaGreatDoor.tm t y * y / (((t + 1 : Nat) : Int) : Rat) = Go.Proofs.YtnnfldkllhdhjaaGreatDoor.tm (t + 1) y from by
    show _ = Go.Proofs.YtnnfldkllhdhjaaGreatDoor.tm t y * y / ((t : Rat) + 1)
    rw [show (((t + 1 : Nat) : Int) : Rat) = (t : Rat) + 1 from by rw [Rat.intCast_natCast, Rat.natCast_add]; rfl]] at so
  have hA2 := hA.fl n0
  have hB2 := hB.cd n0
  refine ⟨g, rfl, hA, hB, by omega, so, h.sm.add so, hA2, hB2, ?_, ?_⟩
  · have h1 := h.pp
    unfold AbP at hA2
    rw [Nat.pow_succ] at h1
    omega
  · have h1 := h.qq
    unfold AbP at hB2
    rw [Nat.pow_succ] at h1
    omega
theorem ExS.last {v f t : Nat} {y : Rat} {a b p q : Int} (h : ExS v f t y a b p q) (ht : tnB a b = true) (hy : 8 * rab y ≤ 1) : RSp (p - 3) (q + 3) v y := by
  refine RSp.series h.sm hy ?_
  unfold tnB at ht
  rw [Bool.and_eq_true, decide_eq_true_iff, decide_eq_true_iff] at ht
  have h1 := (dq_le_iff (-1) a (-(v : Int))).2 (by omega)
  have h2 := (dq_le_iff b 1 (-(v : Int))).2 (by omega)
  rw [dq_neg] at h1
  obtain ⟨h3, h4⟩ := h.tm
  unfold rab
  split
  · grind
  · rw [tm_neg]
    rcases sgk_or t with e | e <;> rw [e] <;> grind
/-- The bits of the ends behind i squares. -/
def sqbits (v i : Nat) : Nat := v + (3 * 2 ^ i - 1)
theorem ExS.ends {v f t : Nat} {y : Rat} {a b p q : Int} (h : ExS v f t y a b p q) (hv : 1 ≤ v) : AbP (p - 3) (sqbits v 0) ∧ AbP (q + 3) (sqbits v 0) := by
  have e : sqbits v 0 = v + 1 + 1 := rfl
  have h1 := h.pp
  have h2 := h.qq
  have h3 : 2 ≤ 2 ^ v := Nat.pow_le_pow_right (n := 2) (i := 1) (by omega) hv
  have h4 := Nat.pow_pos (n := f) (show 0 < 2 by omega)
  unfold AbP
  rw [e, Nat.pow_succ, Nat.pow_succ]
  rw [Nat.pow_succ] at h1 h2
  omega
/-- A round of the squares. -/
structure ExD (v i : Nat) (y : Rat) (a b : Int) : Prop where
  rs : RSp a b v ((((2 : Nat) ^ i : Nat) : Rat) * y)
  aa : AbP a (sqbits v i)
  bb : AbP b (sqbits v i)
theorem ExD.first {v : Nat} {y : Rat} {a b : Int} (h : RSp a b v y) (ha : AbP a (sqbits v 0)) (hb : AbP b (sqbits v 0)) : ExD v 0 y a b :=
  ⟨by rwa [show (((2 : Nat) ^ 0 : Nat) : Rat) * y = y from by rw [Nat.pow_zero]; exact Rat.one_mul y], ha, hb⟩
theorem ExD.step {v i : Nat} {y : Rat} {a b A B : Int} (h : ExD v i y a b) (eA : mn4 (a * a) (a * b) (b * a) (b * b) / 2 ^ v = A) (eB : cdv (mx4 (a * a) (a * b) (b * a) (b * b)) (2 ^ v) = B) : ExD v (i + 1) y A B := by
  have e : sqbits v i + sqbits v i = sqbits v (i + 1) - 1 + v := by
    unfold sqbits
    have := Nat.pow_pos (n := i) (show 0 < 2 by omega)
    rw [Nat.pow_succ]
    omega
  have e2 : sqbits v (i + 1) - 1 ≤ sqbits v (i + 1) := by omega
  have hm : ∀ x z : Int, AbP x (sqbits v i) → AbP z (sqbits v i) → AbP (x * z) (sqbits v (i + 1) - 1 + v) := fun x z h1 h2 => by
    have := h1.mul h2
    rwa [e] at this
  have m1 := hm a a h.aa h.aa
  have m2 := hm a b h.aa h.bb
  have m3 := hm b a h.bb h.aa
  have m4 := hm b b h.bb h.bb
  have r := h.rs.sq
  rw [eA, eB, ← Rat.mul_assoc, show (2 : Rat) * (((2 : Nat) ^ i : Nat) : Rat) = (((2 : Nat) ^ (i + 1) : Nat) : Rat) from by
    rw [Nat.pow_succ, Rat.natCast_mul, Rat.mul_comm]; rfl] at r
  exact ⟨r, by rw [← eA]; exact (AbP.mn4 m1 m2 m3 m4).shr.up e2, by rw [← eB]; exact (AbP.mx4 m1 m2 m3 m4).cshr.up e2⟩
theorem RSp.out {a b : Int} {v k j : Nat} {x : Rat} (h : RSp a b v x) (hj : v = k + j) : LoE (dq (a / 2 ^ j) (-(k : Int))) x ∧ UpE x (dq (cdv b (2 ^ j)) (-(k : Int))) := by
  have hp := pow2_pos j
  have e : dq 1 (-(k : Int)) = dq 1 (-(v : Int)) * (((2 : Int) ^ j : Int) : Rat) := by
    have h1 := two_cast v
    have h2 := two_cast k
    rw [hj, Int.pow_add, Rat.intCast_mul] at h1
    rw [← hj] at h1
    have h3 := dq_pos (-(k : Int))
    grind
  have e2 : ∀ X : Int, dq X (-(k : Int)) = dq X (-(v : Int)) * (((2 : Int) ^ j : Int) : Rat) := fun X => by
    rw [dq_scale X, dq_scale X (-(v : Int)), e]; grind
  refine ⟨h.1.down ?_, h.2.up ?_⟩
  · rw [e2]; exact fdiv_le hp _
  · rw [e2]; exact le_cdiv hp _
/-- An interval whose ends, on the grid of j, enclose the exponential of x. -/
def RetEx (w : World) (x : Rat) (j : Nat) (en : Ending) (w' : World) : Prop := ∃ a b, RetI6 w (mkM a (-(j : Int))) (mkE a (-(j : Int))) (mkM b (-(j : Int))) (mkE b (-(j : Int))) en w' ∧ LoE (dq a (-(j : Int))) x ∧ UpE x (dq b (-(j : Int))) ∧ AbP a 60000 ∧ AbP b 60000
theorem RetEx.mk {w w' : World} {x : Rat} {j : Nat} {en : Ending} {M E N F : Int} (h : ∃ a b, mkM a (-(j : Int)) = M ∧ mkE a (-(j : Int)) = E ∧ mkM b (-(j : Int)) = N ∧ mkE b (-(j : Int)) = F ∧ LoE (dq a (-(j : Int))) x ∧ UpE x (dq b (-(j : Int))) ∧ AbP a 60000 ∧ AbP b 60000) (hr : RetI6 w M E N F en w') : RetEx w x j en w' := by
  obtain ⟨a, b, rfl, rfl, rfl, rfl, h⟩ := h
  exact ⟨a, b, hr, h⟩

/-- What is known of a result: its lower and upper end, in units of 2^-k. -/
def EpA (k : Nat) (a : Int) (x : Rat) : Prop := 0 ≤ a ∧ AbP a (k + 302) ∧ LoE (dq a (-(k : Int))) x ∧ UpE x (dq a (-(k : Int)) + 2 * dq 1 (-(k : Int)))
def EpB (k : Nat) (b : Int) (x : Rat) : Prop := AbP b (k + 302) ∧ LoE (dq b (-(k : Int)) - 2 * dq 1 (-(k : Int))) x ∧ UpE x (dq b (-(k : Int)))
/-- Of an enclosure of the reference. -/
def ExB (j : Nat) (a b : Int) (x : Rat) : Prop := LoE (dq a (-(j : Int))) x ∧ UpE x (dq b (-(j : Int))) ∧ AbP a 60000 ∧ AbP b 60000
theorem ep_le {k : Nat} {a b : Int} {x y : Rat} (ha : EpA k a x) (hb : EpB k b y) (hxy : x ≤ y) : a ≤ b := by
  have h0 := (dq_le_iff 0 a (-(k : Int))).2 ha.1
  rw [dq_zero] at h0
  exact (dq_le_iff _ _ _).1 ((ha.2.2.1.mono hxy h0).le hb.2.2)

theorem mk_val11 {m e : Int} {z : Nat} {M : Int} (h : mkR m e = 0) (hm : m ≠ 0) (hz : tz m.natAbs = z) (ho : oddM m = M) : mkM m e = M ∧ mkE m e = e + (z : Int) := by
  unfold mkM mkE
  rw [h, if_pos rfl, if_neg hm, if_pos rfl, ho]
  refine ⟨rfl, ?_⟩
  unfold oddE
  rw [hz]
theorem small11 {m : Int} (h : m.natAbs < 4294967296) : zl m ≤ 1900 := Nat.le_trans (len_le1 h) (by omega)
theorem mk_odd11 {M : Int} {z : Nat} {m e : Int} (hm : M * 2 ^ z = m) (ho : M.natAbs % 2 = 1) (hs : m.natAbs < 4294967296) (h1 : -4000 ≤ e) (h2 : e ≤ 4000) : mkM m e = M ∧ mkE m e = e + (z : Int) := by
  have h := mk_fits (m := m) (e := e) (small11 hs) h1 h2
  have hm0 : m ≠ 0 := by
    have hM : M ≠ 0 := fun h0 => by rw [h0] at ho; exact absurd ho (by decide)
    rw [← hm]
    exact Int.mul_ne_zero hM (pow2_ne z)
  have hz : tz m.natAbs = z := by rw [← hm, abs_shl]; exact tz_odd ho z
  have ho2 : oddM m = M := by rw [← hm]; exact odd_shl ho z
  exact mk_val11 h hm0 hz ho2
theorem mk_one (j : Nat) (hj : j ≤ 100) : mkM 1 (-(j : Int)) = 1 ∧ mkE 1 (-(j : Int)) = -(j : Int) ∧ mkR 1 (-(j : Int)) = 0 := by
  have h := mk_odd11 (M := 1) (z := 0) (m := 1) (e := -(j : Int)) (by decide) (by decide) (by decide) (by omega) (by omega)
  exact ⟨h.1, by rw [h.2]; omega, mk_fits (small11 (by decide)) (by omega) (by omega)⟩
set_option maxHeartbeats 4000000 in
theorem of14_any (a b : Int) (w : World) (h1 : -4000 ≤ a ∧ a ≤ 4000) (h2 : -4000 ≤ b ∧ b ≤ 4000) :
    Calls Tryz.prog 49 #[.int .i64 a, .int .i64 b] w (RetI6 w (mkM a 0) (mkE a 0) (mkM b 0) (mkE b 0)) := by
  have HA := Lib.hid (fun W => rof8_any a W (by omega) (by omega))
  have HB := Lib.hid (fun W => rof8_any b W (by omega) (by omega))
  generalize mkM a 0 = m at *
  generalize mkE a 0 = e at *
  generalize mkM b 0 = n at *
  generalize mkE b 0 = f at *
  clear h1 h2
  go_enter Tryz.func49, Tryz.ntmps49
  go_wp2_with fail
  have L := ((Lq.mk0 w).varI (w.heap.size) (by simp) false none 0 0 0 false none 0 0 0)
  have c00 := L.b0.c60
  have f00 := L.b0.fr 0
  have c01 := L.b0.c61
  have f01 := L.b0.fr 1
  have c02 := L.b0.c62
  have f02 := L.b0.fr 2
  have c03 := L.b0.c63
  have f03 := L.b0.fr 3
  have c04 := L.b0.c64
  have f04 := L.b0.fr 4
  have c05 := L.b0.c65
  have f05 := L.b0.fr 5
  (try go_wp2_with fail)
  refine (HA.out _).mono ?_
  rintro e w1 ⟨v1, rfl, id, be⟩
  clear c00 f00 c01 f01 c02 f02 c03 f03 c04 f04 c05 f05
  obtain ⟨A, c, rfl, _, in9⟩ := id.form
  replace L := (L.step be).n in9
  clear be id in9
  have c00 := L.b0.c60
  have f00 := L.b0.fr 0
  have c01 := L.b0.c61
  have f01 := L.b0.fr 1
  have c02 := L.b0.c62
  have f02 := L.b0.fr 2
  have c03 := L.b0.c63
  have f03 := L.b0.fr 3
  have c04 := L.b0.c64
  have f04 := L.b0.fr 4
  have c05 := L.b0.c65
  have f05 := L.b0.fr 5
  (try go_wp2_with fail)
  refine (HB.out _).mono ?_
  rintro e w2 ⟨v2, rfl, id, be⟩
  clear c00 f00 c01 f01 c02 f02 c03 f03 c04 f04 c05 f05
  obtain ⟨B, d, rfl, _, in9⟩ := id.form
  replace L := (L.step be).n in9
  clear be id in9
  have c00 := L.b0.c60
  have f00 := L.b0.fr 0
  have c01 := L.b0.c61
  have f01 := L.b0.fr 1
  have c02 := L.b0.c62
  have f02 := L.b0.fr 2
  have c03 := L.b0.c63
  have f03 := L.b0.fr 3
  have c04 := L.b0.c64
  have f04 := L.b0.fr 4
  have c05 := L.b0.c65
  have f05 := L.b0.fr 5
  (try go_wp2_with fail)
  have LP := L.putI (by omega) (by first | (simp; done) | (simp; omega)) (ng m) A (zl m) c e (ng n) B (zl n) d f
  have k0 := LP.b0.c60
  have k1 := LP.b0.c61
  have k2 := LP.b0.c62
  have k3 := LP.b0.c63
  have k4 := LP.b0.c64
  have k5 := LP.b0.c65
  unfold put6 at k0 k1 k2 k3 k4 k5
  exact bodyPost_ret (v := .agg #[.bool (ng m), .slice A (zl m) c, .int .i64 e, .bool (ng n), .slice B (zl n) d, .int .i64 f]) (by simp [results, Tryz.results49, go_sem, k0, k1, k2, k3, k4, k5]) rfl ⟨_, rfl, isI_n (LP.getN (by simp)) (LP.getN (by simp)), LP.below⟩
theorem mk_one14 (j : Nat) (hj : j ≤ 100) : mkM 1 (-(j : Int)) = 1 ∧ mkE 1 (-(j : Int)) = -(j : Int) ∧ mkR 1 (-(j : Int)) = 0 := mk_one j hj

/-- What Exp of a valid interval returns, as the laws use it. -/
theorem RetEp.ab {w : World} {k : Nat} {m e n f : Int} {en : Ending} {w' : World} (h : RetEp w k m e n f en w') : ∃ a b : Int, EpA k a (dq m e) ∧ EpB k b (dq n f) ∧ RetIE w (mkM a (-(k : Int))) (mkE a (-(k : Int))) (mkM b (-(k : Int))) (mkE b (-(k : Int))) 0 en w' := by
  obtain ⟨a, b, h1, h2, h3⟩ := h
  exact ⟨a, b, h1, h2, h3⟩
theorem RetEx.ab {w : World} {x : Rat} {j : Nat} {en : Ending} {w' : World} (h : RetEx w x j en w') : ∃ a b : Int, ExB j a b x ∧ RetI6 w (mkM a (-(j : Int))) (mkE a (-(j : Int))) (mkM b (-(j : Int))) (mkE b (-(j : Int))) en w' := by
  obtain ⟨a, b, h1, h2⟩ := h
  exact ⟨a, b, h2, h1⟩
theorem small14 {m e n f : Int} (lm : zl m ≤ 60) (ln : zl n ≤ 60) (he : -8000 ≤ e ∧ e ≤ 3000) (hf : -8000 ≤ f ∧ f ≤ 3000) (hle : dcm m e n f ≤ 0) (tm : topZ m e ≤ 2048) (tn : topZ n f ≤ 2048) : smallB m e n f = true := by
  have p8 : permB 8192 = true := by decide
  unfold smallB onB
  rw [p8, decide_eq_true hle, decide_eq_true tm, decide_eq_true tn, decide_eq_true (show -8192 ≤ e by omega), decide_eq_true (show -8192 ≤ f by omega)]
  simp


set_option maxHeartbeats 8000000 in
theorem i10out_yes (m e n f p : Int) (vx : Value) (w : World) (hx : IsI w vx m e n f) (lm : zl m ≤ 1000) (ln : zl n ≤ 1000) (he : -20000 ≤ e ∧ e ≤ 20000) (hf : -20000 ≤ f ∧ f ≤ 20000) (hp1 : -9223372036854775808 ≤ p) (hp2 : p ≤ 9223372036854775807) (hp : permB p = true) (r1 : mkR (cutQ (dq m e) p) (-p) = 0) (r2 : mkR (-(cutQ (-(dq n f)) p)) (-p) = 0) (hT : Tab w) :
    Calls Tryz.prog 63 #[vx, .int .i64 p] w (RetIE w (mkM (cutQ (dq m e) p) (-p)) (mkE (cutQ (dq m e) p) (-p)) (mkM (-(cutQ (-(dq n f)) p)) (-p)) (mkE (-(cutQ (-(dq n f)) p)) (-p)) 0) := by
  obtain ⟨A, c, B, d, rfl, hn1, hn2⟩ := hx.form
  have L0 := ((Lq.mk0 w).n hn2).n hn1
  have h1 := fun v W h (hW : Below w.heap.size w W) => gfloor_any m e p v W h (by omega) (by omega) hp1 hp2 (hT.mono hW)
  have h2 := fun v W h (hW : Below w.heap.size w W) => gceil_any n f p v W h (by omega) (by omega) hp1 hp2 (hT.mono hW)
  rw [(g_yes hp (cutQ (dq m e) p)).1, (g_yes hp (cutQ (dq m e) p)).2.1, (g_yes hp (cutQ (dq m e) p)).2.2] at h1
  rw [(g_yes hp (-(cutQ (-(dq n f)) p))).1, (g_yes hp (-(cutQ (-(dq n f)) p))).2.1, (g_yes hp (-(cutQ (-(dq n f)) p))).2.2] at h2
  rw [r1] at h1
  rw [r2] at h2
  generalize mkM (cutQ (dq m e) p) (-p) = M at *
  generalize mkE (cutQ (dq m e) p) (-p) = E at *
  generalize mkM (-(cutQ (-(dq n f)) p)) (-p) = N at *
  generalize mkE (-(cutQ (-(dq n f)) p)) (-p) = G at *
  have H1 := Lib.hid h1
  have H2 := Lib.hid h2
  clear h1 h2 hx hn1 hn2 lm ln he hf hp1 hp2 hp hT r1 r2
  go_enter Tryz.func63, Tryz.ntmps63
  go_wp2_with fail
  have L := ((L0.varI (w.heap.size) (by simp) (ng m) A (zl m) c e (ng n) B (zl n) d f).varI (w.heap.size + 1) (by simp) false none 0 0 0 false none 0 0 0)
  have c00 := L.b0.c60
  have f00 := L.b0.fr 0
  have c01 := L.b0.c61
  have f01 := L.b0.fr 1
  have c02 := L.b0.c62
  have f02 := L.b0.fr 2
  have c03 := L.b0.c63
  have f03 := L.b0.fr 3
  have c04 := L.b0.c64
  have f04 := L.b0.fr 4
  have c05 := L.b0.c65
  have f05 := L.b0.fr 5
  have c10 := L.tl.b0.c60
  have c11 := L.tl.b0.c61
  have c12 := L.tl.b0.c62
  have c13 := L.tl.b0.c63
  have c14 := L.tl.b0.c64
  have c15 := L.tl.b0.c65
  (try go_wp2_with fail)
  refine (H1.out _ _ (isD_n (m := m) (e := e) (s := .slice A (zl m) c) (L.getN (v := .slice A (zl m) c) (x := (m).natAbs) (by simp))) L.below).mono ?_
  rintro e w1 ⟨vv, rfl, id, be⟩
  clear c00 f00 c01 f01 c02 f02 c03 f03 c04 f04 c05 f05 c10 c11 c12 c13 c14 c15
  obtain ⟨A8, c8, rfl, _, in9⟩ := id.form
  replace L := (L.step be).n in9
  clear be id in9
  have hlg := L.b0.lt
  replace L := L.varD w1.heap.size rfl (ng M) A8 (zl M) c8 E
  have c00 := L.b0.c30
  have c01 := L.b0.c31
  have c02 := L.b0.c32
  have c20 := L.tl.tl.b0.c60
  have c21 := L.tl.tl.b0.c61
  have c22 := L.tl.tl.b0.c62
  have c23 := L.tl.tl.b0.c63
  have c24 := L.tl.tl.b0.c64
  have c25 := L.tl.tl.b0.c65
  go_wp2_with fail
  obtain ⟨g, hg⟩ : ∃ g, w1.heap.size = g := ⟨_, rfl⟩
  rw [hg] at L hlg c00 c01 c02 ⊢
  clear hg
  refine (H2.out _ _ (isD_n (m := n) (e := f) (s := .slice B (zl n) d) (L.getN (v := .slice B (zl n) d) (x := (n).natAbs) (by simp))) L.below).mono ?_
  rintro e w2 ⟨vv, rfl, id, be⟩
  clear c00 c01 c02 c20 c21 c22 c23 c24 c25
  obtain ⟨A9, c9, rfl, _, in9⟩ := id.form
  replace L := (L.step be).n in9
  clear be id in9
  have hlk9 := L.b0.lt
  replace L := L.varD w2.heap.size rfl (ng N) A9 (zl N) c9 G
  have n1 : w.heap.size + 1 ≠ g := by omega
  have n2 : w.heap.size + 1 ≠ w2.heap.size := by omega
  replace L := L.pull2
  have c00 := L.b0.c60
  have f00 := L.b0.fr 0
  have c01 := L.b0.c61
  have f01 := L.b0.fr 1
  have c02 := L.b0.c62
  have f02 := L.b0.fr 2
  have c03 := L.b0.c63
  have f03 := L.b0.fr 3
  have c04 := L.b0.c64
  have f04 := L.b0.fr 4
  have c05 := L.b0.c65
  have f05 := L.b0.fr 5
  have c10 := L.tl.b0.c30
  have c11 := L.tl.b0.c31
  have c12 := L.tl.b0.c32
  have c20 := L.tl.tl.b0.c30
  have c21 := L.tl.tl.b0.c31
  have c22 := L.tl.tl.b0.c32
  go_wp2_with fail
  have LP := L.putI (by omega) (by simp [n1, n2, Ne.symm n1, Ne.symm n2]) (ng M) A8 (zl M) c8 E (ng N) A9 (zl N) c9 G
  have k0 := LP.b0.c60
  have k1 := LP.b0.c61
  have k2 := LP.b0.c62
  have k3 := LP.b0.c63
  have k4 := LP.b0.c64
  have k5 := LP.b0.c65
  unfold put6 at k0 k1 k2 k3 k4 k5
  exact bodyPost_ret (v := .tuple #[.agg #[.bool (ng M), .slice A8 (zl M) c8, .int .i64 E, .bool (ng N), .slice A9 (zl N) c9, .int .i64 G], .int .i64 0]) (by simp [results, Tryz.results63, go_sem, k0, k1, k2, k3, k4, k5]) rfl ⟨_, rfl, isI_n (LP.getN (by simp)) (LP.getN (by simp)), LP.below⟩


end Go.Proofs.YtnnfldkllhdhjaaGreatDoor
