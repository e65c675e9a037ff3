/- Joined: LnA, LnE, LnB, LnD, LnF, CpB, IvPE, CpC, CpD, CpE, ExC, RefCoC, RefCoD, ExQ, LnG (what the law leans on). -/
import Derived.Test.YtmlddkiccjpoeaaGreatDoorBaseJU
import Derived.Test.YtmlddkiccjpoeaaGreatDoorBaseDU
import Derived.Test.YtmlddkiccjpoeaaGreatDoorBaseEU
import Derived.Test.YtmlddkiccjpoeaaGreatDoorBaseVU
import Derived.Test.YtmlddkiccjpoeaaGreatDoorBaseGU
import Derived.Test.YtmlddkiccjpoeaaGreatDoorBaseFU
import Derived.Test.YtmlddkiccjpoeaaGreatDoorRefDivModU
import Derived.Test.YtmlddkiccjpoeaaGreatDoorBaseWU
import Derived.Test.YtmlddkiccjpoeaaGreatDoorBaseXU
import Derived.Test.YtmlddkiccjpoeaaGreatDoorGrPCU
import Derived.Test.YtmlddkiccjpoeaaGreatDoorBaseUU
import Derived.Test.YtmlddkiccjpoeaaGreatDoorJU1
import Derived.Test.YtmlddkiccjpoeaaGreatDoorJU2
import Derived.Deep.Cut
import Derived.Deep.CutRange
import Derived.Deep.DrawnRows
import Derived.Deep.RegionHeld3
namespace Go.Proofs.YtmlddkiccjpoeaaGreatDoor
open Go.RowKit
set_option linter.unusedVariables false
set_option linter.unusedSimpArgs false
set_option maxRecDepth 100000
attribute [local go_sem ↓] Go.wp_at_zero Go.wp_at_succ

def okL (p : Int) : Bool := decide (0 ≤ p) && decide (p ≤ 4096)
set_option maxHeartbeats 1000000 in
theorem lperm_any (p : Int) (w : World) :
    Calls Tryz.prog 37 #[.int .i64 p] w (fun e w' => e = .returned (.bool (okL p)) ∧ w = w') := by
  unfold okL
  by_cases q1 : 0 ≤ p
  · have b1 : decide (0 ≤ p) = true := decide_eq_true q1
    rw [b1, Bool.true_and]
    go_enter Tryz.func37, Tryz.ntmps37
    go_wp2_with fail
    go_ret
    exact ⟨rfl, rfl⟩
  · have b1 : decide (0 ≤ p) = false := decide_eq_false q1
    rw [b1, Bool.false_and]
    go_enter Tryz.func37, Tryz.ntmps37
    go_wp2_with fail
    go_ret
    exact ⟨rfl, rfl⟩
set_option maxHeartbeats 8000000 in
theorem lprod_any (M E N G F : Int) (p : Nat) (vx vy : Value) (w : World) (hx : IsD w vx M E) (hy : IsD w vy N G) (lm : zl M ≤ 150) (ln : zl N ≤ 150) (he : -4500 ≤ E ∧ E ≤ 4500) (hg : -4500 ≤ G ∧ G ≤ 4500) (hF : cutQ (dq M E * dq N G) (p : Int) = F) (hb : AbP F 10000) (hp : p ≤ 8192) (hT : Tab w) :
    Calls Tryz.prog 93 #[vx, vy, .int .i64 (p : Int)] w (RetD8 w (mkM F (-(p : Int))) (mkE F (-(p : Int)))) := by
  obtain ⟨A, c, rfl, _, hn⟩ := hx.form
  obtain ⟨B, d, rfl, _, hn2⟩ := hy.form
  have L0 := ((Lq.mk0 w).n hn2).n hn
  have hz := zl_mul M N
  have hr : mkR (M * N) (E + G) = 0 := mk_fits9 (by omega) (by omega) (by omega)
  have z1 := zl_mk (M * N) (E + G)
  have z2 := mkE_at hr (k := 300) (by omega)
  have hd := dq_mk hr
  rw [dq_mul] at hd
  obtain ⟨M4, hM4⟩ : ∃ z, mkM (M * N) (E + G) = z := ⟨_, rfl⟩
  obtain ⟨E4, hE4⟩ : ∃ z, mkE (M * N) (E + G) = z := ⟨_, rfl⟩
  rw [hM4] at z1 hd
  rw [hE4] at z2 hd
  have g1 := fun x y W h j (hW : Below w.heap.size w W) => dmul_any M E N G x y W h j (by omega) (by omega) (by omega) (by omega) (hT.mono hW)
  rw [hM4, hE4, hr] at g1
  obtain ⟨y1, y2, y3⟩ := g_yes (permN (p := p) (by omega)) F
  obtain ⟨n1, n2, n3, _, _⟩ := nx hb (by omega) (show -20000 ≤ -(p : Int) ∧ -(p : Int) ≤ 20000 by omega)
  have g2 := fun x W h (hW : Below w.heap.size w W) => gfloor_any M4 E4 (p : Int) x W h (by omega) (by omega) (by omega) (by omega) (hT.mono hW)
  rw [hd, hF, y1, y2, y3, n1] at g2
  clear y1 y2 y3 n1 n2 n3 hz hr z1 z2 hd hM4 hE4 lm ln he hg hb hp hT hF hx hy
  generalize mkM F (-(p : Int)) = Z at *
  generalize mkE F (-(p : Int)) = Q at *
  have G1 := Lib.hid g1
  have G2 := Lib.hid g2
  clear g1 g2
  go_enter Tryz.func93, Tryz.ntmps93
  have L := (((L0.varD (w.heap.size) (by simp) (ng M) A (zl M) c E).varD (w.heap.size + 1) (by simp) (ng N) B (zl N) d G).varD (w.heap.size + 2) (by simp) false none 0 0 0)
  have c10 := L.tl.b0.c30
  have c11 := L.tl.b0.c31
  have c12 := L.tl.b0.c32
  have c20 := L.tl.tl.b0.c30
  have c21 := L.tl.tl.b0.c31
  have c22 := L.tl.tl.b0.c32
  (try go_wp2_with fail)
  refine (G1.out _ _ _ (isD_n (m := M) (e := E) (s := .slice A (zl M) c) (L.getN (by simp))) (isD_n (m := N) (e := G) (s := .slice B (zl N) d) (L.getN (by simp))) L.below).mono ?_
  rintro e w1 ⟨v9, rfl, iz, be⟩
  clear c10 c11 c12 c20 c21 c22
  obtain ⟨A4, c4, rfl, _, in9⟩ := iz.form
  replace L := (L.step be).n in9
  clear be iz in9
  have hl9 := L.b0.lt
  replace L := L.varD w1.heap.size rfl (ng M4) A4 (zl M4) c4 E4
  have c00 := L.b0.c30
  have c01 := L.b0.c31
  have c02 := L.b0.c32
  go_wp2_with fail
  clear c00 c01 c02
  obtain ⟨g1, hg1⟩ : ∃ g9, w1.heap.size = g9 := ⟨_, rfl⟩
  rw [hg1] at L hl9 ⊢
  clear hg1
  have hl_g1 := hl9
  clear hl9
  refine (G2.out _ _ (isD_n (m := M4) (e := E4) (s := .slice A4 (zl M4) c4) (L.getN (by simp))) L.below).mono ?_
  rintro e w2 ⟨v9, rfl, iz, be⟩
  obtain ⟨A5, c5, rfl, _, in9⟩ := iz.form
  replace L := (L.step be).n in9
  clear be iz in9
  have hl9 := L.b0.lt
  have L9 := L.subx (ns' := [(.slice A5 (zl Z) c5, Z.natAbs)]) (bs' := [(w.heap.size + 1 + 1, 26, #[.bool false, .slice none 0 0, .int .i64 0])]) (by simp) (by simp)
  clear L
  have L := L9
  clear L9
  have n9 : w.heap.size + 1 + 1 ≠ w2.heap.size := by omega
  have c00 := L.b0.c30
  have f00 := L.b0.fr 0
  have c01 := L.b0.c31
  have f01 := L.b0.fr 1
  have c02 := L.b0.c32
  have f02 := L.b0.fr 2
  have LN := L.varD w2.heap.size rfl (ng Z) A5 (zl Z) c5 Q
  have v0 := LN.b0.c30
  have v1 := LN.b0.c31
  have v2 := LN.b0.c32
  have v3 := LN.tl.b0.c30
  have v4 := LN.tl.b0.c31
  have v5 := LN.tl.b0.c32
  have v6 := LN.tl.b0.fr 0
  have v7 := LN.tl.b0.fr 1
  have v8 := LN.tl.b0.fr 2
  go_wp2_with fail
  clear c00 f00 c01 f01 c02 f02
  clear v0 v1 v2 v3 v4 v5 v6 v7 v8
  clear L
  have L := LN.swap
  clear LN
  have LP := L.putD (by omega) (by first | (simp; done) | (simp; omega)) (ng Z) A5 (zl Z) c5 (Q)
  have k0 := LP.b0.c30
  have k1 := LP.b0.c31
  have k2 := LP.b0.c32
  unfold put3 at k0 k1 k2
  exact bodyPost_ret (v := .agg #[.bool (ng Z), .slice A5 (zl Z) c5, .int .i64 (Q)]) (by simp [results, Tryz.results93, go_sem, k0, k1, k2]) rfl ⟨_, rfl, isD_n (LP.getN (by simp)), LP.below⟩
/-- The quotient by a number that is not less than 1. -/
theorem rec_bd {x : Rat} {p b k : Nat} (h1 : 1 ≤ x) (hp : k + b = p) : cutQ (dq 1 (b : Int) / x) (k : Int) = cutQ (1 / x) (p : Int) ∧ AbP (cutQ (1 / x) (p : Int)) p ∧ AbP (-(cutQ (-(dq 1 (b : Int) / x)) (k : Int))) p ∧ dq (cutQ (1 / x) (p : Int)) (-(p : Int)) * x ≤ 1 ∧ 1 ≤ (dq (cutQ (1 / x) (p : Int)) (-(p : Int)) + dq 1 (-(p : Int))) * x ∧ 0 ≤ cutQ (1 / x) (p : Int) := by
  have hx : (0 : Rat) < x := by grind
  have e1 : cutQ (dq 1 (b : Int) / x) (k : Int) = cutQ (1 / x) (p : Int) := by
    unfold cutQ
    congr 1
    have := dq_mul 1 (b : Int) 1 (k : Int)
    rw [Int.one_mul, show (b : Int) + (k : Int) = (p : Int) by omega] at this
    rw [this, Rat.div_def, Rat.div_def]
    grind
  have iv : 1 / x * x = 1 := Rat.div_mul_cancel (Rat.ne_of_gt hx)
  have iv1 : 1 / x ≤ 1 := le_of_mul hx (by rw [iv]; grind)
  have iv0 : 0 < 1 / x := by
    refine Rat.not_le.1 fun hle => ?_
    have := Rat.mul_le_mul_of_nonneg_right hle (Rat.le_of_lt hx)
    rw [iv] at this
    grind
  have c1 := cut_lo (1 / x) (p : Int)
  have c2 := cut_hi (1 / x) (p : Int)
  have hu := dq_pos (-(p : Int))
  have one : dq (2 ^ p) (-(p : Int)) = 1 := by rw [dq_scale]; exact two_cast p
  have nn : 0 ≤ cutQ (1 / x) (p : Int) := by
    refine Int.not_lt.1 fun hlt => ?_
    have := (dq_le_iff (cutQ (1 / x) (p : Int) + 1) 0 (-(p : Int))).2 (by omega)
    rw [dq_succ, dq_zero] at this
    grind
  have up : cutQ (1 / x) (p : Int) ≤ 2 ^ p := (dq_le_iff _ _ (-(p : Int))).1 (by rw [one]; exact Rat.le_trans c1 iv1)
  have ab : ∀ y : Int, 0 ≤ y → y ≤ 2 ^ p → AbP y p := fun y h0 h9 => by
    unfold AbP
    have : ((2 ^ p : Nat) : Int) = 2 ^ p := by push_cast; rfl
    omega
  refine ⟨e1, ab _ nn up, ?_, ?_, ?_, nn⟩
  · have d1 := cut_lo (-(dq 1 (b : Int) / x)) (k : Int)
    have d2 := cut_hi (-(dq 1 (b : Int) / x)) (k : Int)
    have hb := dq_pos (b : Int)
    have q1 : dq 1 (b : Int) / x ≤ dq 1 (b : Int) := by
      refine le_of_mul hx ?_
      rw [Rat.div_mul_cancel (Rat.ne_of_gt hx)]
      have := Rat.mul_le_mul_of_nonneg_left h1 (Rat.le_of_lt hb)
      grind
    have q0 : 0 ≤ dq 1 (b : Int) / x := by
      refine le_of_mul hx ?_
      rw [Rat.div_mul_cancel (Rat.ne_of_gt hx), Rat.zero_mul]
      exact Rat.le_of_lt hb
    refine ab _ ?_ ?_
    · have := (dq_le_iff (cutQ (-(dq 1 (b : Int) / x)) (k : Int)) 0 (-(k : Int))).1 (by rw [dq_zero]; grind)
      omega
    · have e : dq (-(2 ^ p)) (-(k : Int)) = -dq 1 (b : Int) := by
        rw [dq_neg]
        congr 1
        refine dq_eq (F := -(k : Int)) ?_ (by omega) (by omega)
        rw [show (-(k : Int) - -(k : Int)).toNat = 0 by omega, show ((b : Int) - -(k : Int)).toNat = p by omega]
        simp
      have h9 : dq (-(2 ^ p)) (-(k : Int)) < dq (cutQ (-(dq 1 (b : Int) / x)) (k : Int) + 1) (-(k : Int)) := by
        rw [e, dq_succ]
        grind
      have h8 : ¬ (cutQ (-(dq 1 (b : Int) / x)) (k : Int) + 1 ≤ -(2 ^ p)) := fun h => Rat.not_le.2 h9 ((dq_le_iff _ _ _).2 h)
      omega
  · have := Rat.mul_le_mul_of_nonneg_right c1 (Rat.le_of_lt hx)
    rw [iv] at this
    exact this
  · have := Rat.mul_le_mul_of_nonneg_right (Rat.le_of_lt c2) (Rat.le_of_lt hx)
    rw [iv] at this
    exact this

set_option maxHeartbeats 16000000 in
theorem lrec_any (M E F : Int) (p : Nat) (vx : Value) (w : World) (hx : IsD w vx M E) (hv : Dv M E) (lm : zl M ≤ 140) (he : -4500 ≤ E ∧ E ≤ 4500) (h1 : 1 ≤ dq M E) (hF : cutQ (1 / dq M E) (p : Int) = F) (hp : p ≤ 4160) (hT : Tab w) :
    Calls Tryz.prog 94 #[vx, .int .i64 (p : Int)] w (RetD8 w (mkM F (-(p : Int))) (mkE F (-(p : Int)))) := by
  obtain ⟨A, c, rfl, _, hn⟩ := hx.form
  have L0 := (Lq.mk0 w).n hn
  obtain ⟨b, hb⟩ : ∃ b : Nat, max ((p : Int) - 4096) 0 = (b : Int) := ⟨(max ((p : Int) - 4096) 0).toNat, by omega⟩
  obtain ⟨k, hk⟩ : ∃ k : Nat, (p : Int) - (b : Int) = (k : Int) := ⟨((p : Int) - (b : Int)).toNat, by omega⟩
  obtain ⟨r1, r2, r3, _, _, _⟩ := rec_bd h1 (show k + b = p by omega)
  rw [hF] at r1 r2
  have hpm : permB (-(b : Int)) = true := by
    unfold permB
    rw [decide_eq_true (show (-2048 : Int) ≤ -(b : Int) by omega), decide_eq_true (show -(b : Int) ≤ 8192 by omega)]
    rfl
  obtain ⟨y1, y2, y3⟩ := g_yes hpm 1
  rw [Int.neg_neg] at y1 y2 y3
  have ha1 : AbP 1 0 := by unfold AbP; decide
  obtain ⟨u1, u2, u3, u4, u5⟩ := nx (x := (b : Int)) ha1 (by omega) (by omega)
  have g1 := fun W (hW : Below w.heap.size w W) => gunit_any (-(b : Int)) W (by omega) (by omega) (hT.mono hW)
  rw [y1, y2, y3, u1] at g1
  obtain ⟨UU, hU⟩ : ∃ z, mkM 1 (b : Int) = z := ⟨_, rfl⟩
  obtain ⟨VV, hV⟩ : ∃ z, mkE 1 (b : Int) = z := ⟨_, rfl⟩
  rw [hU] at g1 u2 u4 u5
  rw [hV] at g1 u3 u4 u5
  have g2 := fun x W h => i10point_any UU VV x W h (by omega) (by omega) u4
  have g3 := fun x W h => i10point_any M E x W h (by omega) (by omega) hv
  have hwk : workB (k : Int) = true := by
    unfold workB
    rw [decide_eq_true (show (0 : Int) ≤ (k : Int) by omega), decide_eq_true (show (k : Int) ≤ 4096 by omega)]
    rfl
  have hM0 : 0 < M := (dq_gt0 M E).1 (by generalize dq M E = q at *; grind)
  have g4 := fun x y W h j (hW : Below w.heap.size w W) => adiv_pos UU VV UU VV M E M E (k : Int) x y W h j (by omega) (by omega) (by omega) (by omega) (by omega) (by omega) (by omega) (by omega) (by rw [dcm_self]; omega) (by rw [dcm_self]; omega) (by omega) (by omega) (hT.mono hW) hwk rfl (by rw [cmpI_gt hM0]; omega) (by rw [cmpI_gt hM0]; omega)
  rw [u5] at g4
  obtain ⟨q, hq⟩ : ∃ q, dq 1 (b : Int) / dq M E = q := ⟨_, rfl⟩
  rw [hq] at r1 r3 g4
  have em : min4 q q q q = q := by rcases min4_or q q q q with h | h | h | h <;> exact h
  have ex : max4 q q q q = q := by rcases max4_or q q q q with h | h | h | h <;> exact h
  have z1 := r2.zl
  have z2 := r3.zl
  have hen := fun W => RetEn.ok (lo := q) (hi := q) hwk (z := 3) (by rw [r1]; omega) (by omega) (by omega) Rat.le_refl W
  rw [em, ex] at g4
  simp only [hen] at g4
  unfold enM enE at g4
  rw [r1] at g4
  obtain ⟨f1, f2, f3, f4, f5⟩ := nx (x := -(k : Int)) r2 (by omega) (by omega)
  obtain ⟨d1, d2, d3, d4, d5⟩ := nx (x := -(p : Int)) r2 (by omega) (by omega)
  obtain ⟨X, hX⟩ : ∃ z, mkM F (-(k : Int)) = z := ⟨_, rfl⟩
  obtain ⟨Y, hY⟩ : ∃ z, mkE F (-(k : Int)) = z := ⟨_, rfl⟩
  rw [hX] at g4 f2 f4 f5
  rw [hY] at g4 f3 f4 f5
  have hr5 : mkR X (Y + -(b : Int)) = 0 := mk_fits9 (by omega) (by omega) (by omega)
  have e5 : mkM X (Y + -(b : Int)) = mkM F (-(p : Int)) ∧ mkE X (Y + -(b : Int)) = mkE F (-(p : Int)) := by
    refine mk_uniq hr5 d1 ?_
    have h9 := dq_mul X Y 1 (-(b : Int))
    rw [Int.mul_one] at h9
    have h8 := dq_mul F (-(k : Int)) 1 (-(b : Int))
    rw [Int.mul_one, show -(k : Int) + -(b : Int) = -(p : Int) by omega] at h8
    rw [h9, f5, h8]
  have g5 := fun x W h (hW : Below w.heap.size w W) => dshift_any X Y (-(b : Int)) x W h (by omega) (by omega) (by omega) (hT.mono hW)
  rw [hr5, e5.1, e5.2] at g5
  have w1 : IntKind.i64.wrap ((p : Int) - 4096) = (p : Int) - 4096 := by rw [IntKind.wrap_i64]; omega
  have w2 : IntKind.i64.wrap (-(b : Int)) = -(b : Int) := by rw [IntKind.wrap_i64]; omega
  have w3 : IntKind.i64.wrap ((p : Int) - (b : Int)) = (k : Int) := by rw [IntKind.wrap_i64]; omega
  clear r1 r2 r3 y1 y2 y3 ha1 u1 u2 u3 u4 u5 hwk hM0 em ex z1 z2 hen f1 f2 f3 f4 f5 d1 d2 d3 d4 d5 hr5 e5 hpm hX hY hU hV hq hk hp hT hF h1 lm he hv hx
  generalize mkM F (-(p : Int)) = Z at *
  generalize mkE F (-(p : Int)) = Q at *
  generalize upM q (k : Int) = UM at *
  generalize upE q (k : Int) = UE at *
  have G1 := Lib.hid g1
  have G2 := Lib.hid g2
  have G3 := Lib.hid g3
  have G4 := Lib.hid g4
  have G5 := Lib.hid g5
  clear g1 g2 g3 g4 g5
  go_enter Tryz.func94, Tryz.ntmps94
  have L := ((L0.varD (w.heap.size) (by simp) (ng M) A (zl M) c E).varD (w.heap.size + 1) (by simp) false none 0 0 0)
  (try go_wp2_with fail)
  refine (G1.out _ L.below).mono ?_
  rintro e w1 ⟨v9, rfl, iz, be⟩
  obtain ⟨A1, c1, rfl, _, in9⟩ := iz.form
  replace L := (L.step be).n in9
  clear be iz in9
  have hl9 := L.b0.lt
  replace L := L.varD w1.heap.size rfl (ng UU) A1 (zl UU) c1 VV
  have c00 := L.b0.c30
  have c01 := L.b0.c31
  have c02 := L.b0.c32
  go_wp2_with fail
  clear c00 c01 c02
  obtain ⟨g1, hg1⟩ : ∃ g9, w1.heap.size = g9 := ⟨_, rfl⟩
  rw [hg1] at L hl9 ⊢
  clear hg1
  have hl_g1 := hl9
  clear hl9
  obtain ⟨V, hV, L9⟩ := L.name
  rw [hV]
  clear hV L
  have L := L9
  clear L9
  have Q0 := Lib.hid (fun Z (hZ : Below V.heap.size V Z) => (L.b0.mono hZ).c30)
  have Q1 := Lib.hid (fun Z (hZ : Below V.heap.size V Z) => (L.b0.mono hZ).c31)
  have Q2 := Lib.hid (fun Z (hZ : Below V.heap.size V Z) => (L.b0.mono hZ).c32)
  have Q3 := Lib.hid (fun Z (hZ : Below V.heap.size V Z) => (L.tl.tl.b0.mono hZ).c30)
  have Q4 := Lib.hid (fun Z (hZ : Below V.heap.size V Z) => (L.tl.tl.b0.mono hZ).c31)
  have Q5 := Lib.hid (fun Z (hZ : Below V.heap.size V Z) => (L.tl.tl.b0.mono hZ).c32)
  have hb0 := L.b0.lt
  have hb1 := L.tl.tl.b0.lt
  have D0 : Dq V V [(.slice A1 (zl UU) c1, (UU : Int).natAbs), (.slice A (zl M) c, (M : Int).natAbs)] [] [] [] := ⟨(((Lq.mk0 V).n (L.getN (v := .slice A (zl M) c) (x := (M : Int).natAbs) (by simp))).n (L.getN (v := .slice A1 (zl UU) c1) (x := (UU : Int).natAbs) (by simp))), List.nodup_nil, fun p hp => by cases hp⟩
  have D := D0.drew
  have hVw := L.below.size
  have HVW := Lib.hid (fun Z (hZ : Below V.heap.size V Z) => L.below.trans (hZ.mono hVw))
  have LL := Lib.hid L
  clear L
  obtain ⟨K, hK⟩ : ∃ K, V.heap.size = K := ⟨_, rfl⟩
  have hz0 : K ≤ V.heap.size := by omega
  have hmd : V.drew.heap.size = K := hK
  have hc0 : g1 < K := by omega
  have hc1 : w.heap.size < K := by omega
  go_cut [8, 9] from 22 to 32 (fun s0 s1 wx => s1 = .int .i64 0 ∧ Made1I V X Y UM UE s0 wx)
  case first =>
    go_region_held3 (fun w' => w'.cell? ⟨g1, 0, none⟩ = some (.bool (ng UU)) ∧ w'.cell? ⟨g1, 1, none⟩ = some (.slice A1 (zl UU) c1) ∧ w'.cell? ⟨g1, 2, none⟩ = some (.int .i64 VV) ∧ w'.cell? ⟨w.heap.size, 0, none⟩ = some (.bool (ng M)) ∧ w'.cell? ⟨w.heap.size, 1, none⟩ = some (.slice A (zl M) c) ∧ w'.cell? ⟨w.heap.size, 2, none⟩ = some (.int .i64 E)) (((try dsimp only); refine ⟨?_, ?_, ?_, ?_, ?_, ?_⟩ <;> (repeat (first | (with_reducible exact Q0.out _ D.lq.below) | (with_reducible exact Q0.out _ D0.lq.below) | (with_reducible exact Q1.out _ D.lq.below) | (with_reducible exact Q1.out _ D0.lq.below) | (with_reducible exact Q2.out _ D.lq.below) | (with_reducible exact Q2.out _ D0.lq.below) | (with_reducible exact Q3.out _ D.lq.below) | (with_reducible exact Q3.out _ D0.lq.below) | (with_reducible exact Q4.out _ D.lq.below) | (with_reducible exact Q4.out _ D0.lq.below) | (with_reducible exact Q5.out _ D.lq.below) | (with_reducible exact Q5.out _ D0.lq.below) | (with_reducible refine c_alloc _ ?_) | (with_reducible refine c_drew ?_) | (with_reducible refine c_set ?_ (by assumption) ?_) | omega)))) (first | (go_at_call 146; (with_reducible refine (G2.out _ _ ?_).mono ?_); (· (first | (with_reducible refine isD_n (D.getN ?_); (repeat (first | (with_reducible exact List.mem_cons_self) | apply List.mem_cons_of_mem))) | (with_reducible refine isD_n ((D.boxI false none 0 0 0 false none 0 0 0).getN ?_); (repeat (first | (with_reducible exact List.mem_cons_self) | apply List.mem_cons_of_mem))) | (with_reducible refine isD_n ((D0.boxI false none 0 0 0 false none 0 0 0).drew.getN ?_); (repeat (first | (with_reducible exact List.mem_cons_self) | apply List.mem_cons_of_mem))))); rintro e9 wh ⟨vh, rfl, ii, be⟩; obtain ⟨A2, c2, B2, d2, rfl, ia, ib⟩ := ii.form; (first | (replace D := D.step be) | (replace D := (D.boxMI hmd false none 0 0 0 false none 0 0 0).step be) | (replace D := (D.boxI false none 0 0 0 false none 0 0 0).step be)); have hz := be.size; (try simp at hz); replace D := (D.n ib).n ia; (try (have x00 := D.lq.b0.c60; have y00 := D.lq.b0.fr 0; have x01 := D.lq.b0.c61; have y01 := D.lq.b0.fr 1; have x02 := D.lq.b0.c62; have y02 := D.lq.b0.fr 2; have x03 := D.lq.b0.c63; have y03 := D.lq.b0.fr 3; have x04 := D.lq.b0.c64; have y04 := D.lq.b0.fr 4; have x05 := D.lq.b0.c65; have y05 := D.lq.b0.fr 5)); (try obtain ⟨na, nb, nc, nd, nl⟩ := D.n0)) | (go_at_call 146; (with_reducible refine (G3.out _ _ ?_).mono ?_); (· (first | (with_reducible refine isD_n (D.getN ?_); (repeat (first | (with_reducible exact List.mem_cons_self) | apply List.mem_cons_of_mem))) | (with_reducible refine isD_n ((D.boxI false none 0 0 0 false none 0 0 0).getN ?_); (repeat (first | (with_reducible exact List.mem_cons_self) | apply List.mem_cons_of_mem))) | (with_reducible refine isD_n ((D0.boxI false none 0 0 0 false none 0 0 0).drew.getN ?_); (repeat (first | (with_reducible exact List.mem_cons_self) | apply List.mem_cons_of_mem))))); rintro e9 wh ⟨vh, rfl, ii, be⟩; obtain ⟨A3, c3, B3, d3, rfl, ia, ib⟩ := ii.form; (first | (replace D := D.step be) | (replace D := (D.boxMI hmd false none 0 0 0 false none 0 0 0).step be) | (replace D := (D.boxI false none 0 0 0 false none 0 0 0).step be)); have hz := be.size; (try simp at hz); replace D := (D.n ib).n ia; (try (have x00 := D.lq.b0.c60; have y00 := D.lq.b0.fr 0; have x01 := D.lq.b0.c61; have y01 := D.lq.b0.fr 1; have x02 := D.lq.b0.c62; have y02 := D.lq.b0.fr 2; have x03 := D.lq.b0.c63; have y03 := D.lq.b0.fr 3; have x04 := D.lq.b0.c64; have y04 := D.lq.b0.fr 4; have x05 := D.lq.b0.c65; have y05 := D.lq.b0.fr 5)); (try obtain ⟨na, nb, nc, nd, nl⟩ := D.n0)) | (go_at_call 145; (with_reducible refine (G4.out _ _ _ ?_ ?_ ?_).mono ?_); (· (first | (with_reducible refine isI_n (D.getN ?_) (D.getN ?_) <;> (repeat (first | (with_reducible exact List.mem_cons_self) | apply List.mem_cons_of_mem))) | (with_reducible refine isI_n ((D.boxI false none 0 0 0 false none 0 0 0).getN ?_) ((D.boxI false none 0 0 0 false none 0 0 0).getN ?_) <;> (repeat (first | (with_reducible exact List.mem_cons_self) | apply List.mem_cons_of_mem))) | (with_reducible refine isI_n ((D0.boxI false none 0 0 0 false none 0 0 0).drew.getN ?_) ((D0.boxI false none 0 0 0 false none 0 0 0).drew.getN ?_) <;> (repeat (first | (with_reducible exact List.mem_cons_self) | apply List.mem_cons_of_mem))))); (· (first | (with_reducible refine isI_n (D.getN ?_) (D.getN ?_) <;> (repeat (first | (with_reducible exact List.mem_cons_self) | apply List.mem_cons_of_mem))) | (with_reducible refine isI_n ((D.boxI false none 0 0 0 false none 0 0 0).getN ?_) ((D.boxI false none 0 0 0 false none 0 0 0).getN ?_) <;> (repeat (first | (with_reducible exact List.mem_cons_self) | apply List.mem_cons_of_mem))) | (with_reducible refine isI_n ((D0.boxI false none 0 0 0 false none 0 0 0).drew.getN ?_) ((D0.boxI false none 0 0 0 false none 0 0 0).drew.getN ?_) <;> (repeat (first | (with_reducible exact List.mem_cons_self) | apply List.mem_cons_of_mem))))); (· (first | (with_reducible exact HVW.out _ D.lq.below) | (with_reducible exact HVW.out _ (D.boxI false none 0 0 0 false none 0 0 0).lq.below) | (with_reducible exact HVW.out _ (D0.boxI false none 0 0 0 false none 0 0 0).drew.lq.below))); rintro e9 wh ⟨vh, rfl, ii, be⟩; obtain ⟨A4, c4, B4, d4, rfl, ia, ib⟩ := ii.form; (first | (replace D := D.step be) | (replace D := (D.boxMI hmd false none 0 0 0 false none 0 0 0).step be) | (replace D := (D.boxI false none 0 0 0 false none 0 0 0).step be)); have hz := be.size; (try simp at hz); replace D := (D.n ib).n ia; (try (have x00 := D.lq.b0.c60; have y00 := D.lq.b0.fr 0; have x01 := D.lq.b0.c61; have y01 := D.lq.b0.fr 1; have x02 := D.lq.b0.c62; have y02 := D.lq.b0.fr 2; have x03 := D.lq.b0.c63; have y03 := D.lq.b0.fr 3; have x04 := D.lq.b0.c64; have y04 := D.lq.b0.fr 4; have x05 := D.lq.b0.c65; have y05 := D.lq.b0.fr 5)); (try obtain ⟨na, nb, nc, nd, nl⟩ := D.n0)))
    all_goals
      go_wp2_with fail
      go_meet
      refine ⟨rfl, ?_⟩
      first
      | ((with_reducible refine made1i_a D ?_ ?_) <;> (repeat (first | (with_reducible exact List.mem_cons_self) | apply List.mem_cons_of_mem)))
      | ((with_reducible refine made1i_b D ?_ ?_) <;> (repeat (first | (with_reducible exact List.mem_cons_self) | apply List.mem_cons_of_mem)))
  case rest =>
    obtain ⟨rfl, g2, A5, c5, B5, d5, rfl, hg9, bw, hb9, q1, q2⟩ := hcut
    have L := (((LL.out.step bw).n q2).n q1).b hb9
    have hl_g2 := hg9
    clear D D0 hmd LL hb9 q1 q2 bw hg9 HVW Q0 Q1 Q2 Q3 Q4 Q5 hc0 hc1
    generalize wc = wd1 at *
    have c00 := L.b0.c60
    have c01 := L.b0.c61
    have c02 := L.b0.c62
    have c03 := L.b0.c63
    have c04 := L.b0.c64
    have c05 := L.b0.c65
    (try go_wp2_with fail)
    refine (G5.out _ _ (isD_n (m := X) (e := Y) (s := .slice A5 (zl X) c5) (L.getN (by simp))) L.below).mono ?_
    rintro e w3 ⟨v9, rfl, iz, be⟩
    clear c00 c01 c02 c03 c04 c05
    obtain ⟨A6, c6, rfl, _, in9⟩ := iz.form
    replace L := (L.step be).n in9
    clear be iz in9
    have hl9 := L.b0.lt
    have L9 := L.subx (ns' := [(.slice A6 (zl Z) c6, Z.natAbs)]) (bs' := [(w.heap.size + 1, 26, #[.bool false, .slice none 0 0, .int .i64 0])]) (by simp) (by simp)
    clear L
    have L := L9
    clear L9
    have n9 : w.heap.size + 1 ≠ w3.heap.size := by omega
    have c00 := L.b0.c30
    have f00 := L.b0.fr 0
    have c01 := L.b0.c31
    have f01 := L.b0.fr 1
    have c02 := L.b0.c32
    have f02 := L.b0.fr 2
    have LN := L.varD w3.heap.size rfl (ng Z) A6 (zl Z) c6 Q
    have v0 := LN.b0.c30
    have v1 := LN.b0.c31
    have v2 := LN.b0.c32
    have v3 := LN.tl.b0.c30
    have v4 := LN.tl.b0.c31
    have v5 := LN.tl.b0.c32
    have v6 := LN.tl.b0.fr 0
    have v7 := LN.tl.b0.fr 1
    have v8 := LN.tl.b0.fr 2
    go_wp2_with fail
    clear c00 f00 c01 f01 c02 f02
    clear v0 v1 v2 v3 v4 v5 v6 v7 v8
    clear L
    have L := LN.swap
    clear LN
    have LP := L.putD (by omega) (by first | (simp; done) | (simp; omega)) (ng Z) A6 (zl Z) c6 (Q)
    have k0 := LP.b0.c30
    have k1 := LP.b0.c31
    have k2 := LP.b0.c32
    unfold put3 at k0 k1 k2
    exact bodyPost_ret (v := .agg #[.bool (ng Z), .slice A6 (zl Z) c6, .int .i64 (Q)]) (by simp [results, Tryz.results94, go_sem, k0, k1, k2]) rfl ⟨_, rfl, isD_n (LP.getN (by simp)), LP.below⟩

/-- The nearest number of a grid. -/
theorem near_bd (q : Rat) (p : Nat) {Mi : Int} (h : (cutQ q ((p : Int) + 1) + 1) / 2 = Mi) : q ≤ dq Mi (-(p : Int)) + dq 1 (-(p : Int)) ∧ dq Mi (-(p : Int)) ≤ q + dq 1 (-(p : Int)) := by
  have c1 := cut_lo q ((p : Int) + 1)
  have c2 := cut_hi q ((p : Int) + 1)
  obtain ⟨c, hc⟩ : ∃ c, cutQ q ((p : Int) + 1) = c := ⟨_, rfl⟩
  rw [hc] at h c1 c2
  have e : ∀ X : Int, dq X (-(p : Int)) = dq (2 * X) (-((p : Int) + 1)) := fun X => by
    refine dq_eq (F := -((p : Int) + 1)) ?_ (by omega) (by omega)
    rw [show (-(p : Int) - -((p : Int) + 1)).toNat = 1 by omega, show (-((p : Int) + 1) - -((p : Int) + 1)).toNat = 0 by omega]
    omega
  rw [e Mi, e 1, ← dq_succ] at *
  have hv := dq_pos (-((p : Int) + 1))
  have h1 := (dq_le_iff (c + 1) (2 * Mi + 1) (-((p : Int) + 1))).2 (by omega)
  have h2 := (dq_le_iff (2 * Mi) (c + 1) (-((p : Int) + 1))).2 (by omega)
  have e2 : dq (2 * 1) (-((p : Int) + 1)) = dq 1 (-((p : Int) + 1)) + dq 1 (-((p : Int) + 1)) := by
    rw [← dq_addI]; rfl
  rw [e2]
  rw [dq_succ] at h1 h2 c2
  rw [dq_succ] at h1
  generalize dq c (-((p : Int) + 1)) = x at *
  generalize dq (2 * Mi) (-((p : Int) + 1)) = y at *
  generalize dq 1 (-((p : Int) + 1)) = v at *
  clear e e2 hc
  constructor <;> grind
theorem abp_in {y : Int} {p : Nat} (h0 : -(2 ^ p) ≤ y) (h : y ≤ 2 ^ p) : AbP y p := by
  unfold AbP
  have : ((2 ^ p : Nat) : Int) = 2 ^ p := by push_cast; rfl
  omega
theorem dq_abp {y : Int} {p : Nat} (h0 : -1 ≤ dq y (-(p : Int))) (h : dq y (-(p : Int)) ≤ 1) : AbP y p := by
  refine abp_in ((dq_le_iff _ _ (-(p : Int))).1 ?_) ((dq_le_iff _ _ (-(p : Int))).1 ?_)
  · rw [dq_neg, one_p]; exact h0
  · rw [one_p]; exact h
theorem u1000 {p : Nat} (h : 32 ≤ p) : dq 1 (-(p : Int)) ≤ 1 / 1000 := by
  refine Rat.le_trans (dq_anti (a := -(p : Int)) (b := -10) (by omega)) ?_
  decide +kernel
theorem nxc {T x : Int} {j : Nat} (B : Int) (h : AbP T j) (hj : j ≤ 20000) (hx : -4500 ≤ x ∧ x ≤ 0) (hB0 : 0 ≤ B) (hB : x + (j : Int) + 32 ≤ B) :
    mkR T x = 0 ∧ zl (mkM T x) ≤ j / 32 + 1 ∧ (-4500 ≤ mkE T x ∧ mkE T x ≤ B) ∧ Dv (mkM T x) (mkE T x) ∧ dq (mkM T x) (mkE T x) = dq T x := by
  obtain ⟨a1, a2, a3, a4, a5⟩ := nx (x := x) h hj (by omega)
  exact ⟨a1, a2, by omega, a4, a5⟩
theorem nx_one {p : Nat} (hp : p ≤ 5000) : mkM 1 0 = mkM (2 ^ p) (-(p : Int)) ∧ mkE 1 0 = mkE (2 ^ p) (-(p : Int)) := by
  obtain ⟨a1, _⟩ := nx (T := 1) (x := 0) (j := 0) (by unfold AbP; decide) (by omega) (by omega)
  obtain ⟨b1, _⟩ := nx (T := 2 ^ p) (x := -(p : Int)) (j := p) (abp_in (by have := pow2_pos p; omega) (Int.le_refl _)) (by omega) (by omega)
  exact mk_uniq a1 b1 (by rw [one_p]; rfl)
theorem nx_sub {s t x : Int} {j : Nat} (h1 : AbP s j) (h2 : AbP t j) (hj : j ≤ 6000) (hx : -6000 ≤ x ∧ x ≤ 100) :
    mkR (addS (mkM s x) (mkE s x) (-(mkM t x)) (mkE t x)) (min (mkE s x) (mkE t x)) = 0 ∧
    mkM (addS (mkM s x) (mkE s x) (-(mkM t x)) (mkE t x)) (min (mkE s x) (mkE t x)) = mkM (s - t) x ∧
    mkE (addS (mkM s x) (mkE s x) (-(mkM t x)) (mkE t x)) (min (mkE s x) (mkE t x)) = mkE (s - t) x := by
  obtain ⟨a1, a2, a3, a4, a5⟩ := nx (x := x) h1 (by omega) (by omega)
  obtain ⟨b1, b2, b3, b4, b5⟩ := nx (x := x) h2 (by omega) (by omega)
  have hn := zl_neg (mkM t x)
  have hz := zl_addS (mkM s x) (mkE s x) (-(mkM t x)) (mkE t x) 7500 (by omega) (by omega)
  obtain ⟨c1, _⟩ := nx (x := x) (h1.add h2.neg) (by omega) (by omega)
  rw [← Int.sub_eq_add_neg] at c1
  have hr : mkR (addS (mkM s x) (mkE s x) (-(mkM t x)) (mkE t x)) (min (mkE s x) (mkE t x)) = 0 := mk_fits9 (by omega) (by omega) (by omega)
  exact ⟨hr, mk_uniq hr c1 (by rw [dq_add, dq_neg, a5, b5, Int.sub_eq_add_neg, dq_addI, dq_neg])⟩
theorem nx_mulk {s t x : Int} {j k : Nat} (h1 : AbP s j) (h2 : AbP t k) (hj : j ≤ 6000) (hk : k ≤ 100) (hx : -6000 ≤ x ∧ x ≤ 100) :
    mkR (mkM s x * mkM t 0) (mkE s x + mkE t 0) = 0 ∧ mkM (mkM s x * mkM t 0) (mkE s x + mkE t 0) = mkM (s * t) x ∧ mkE (mkM s x * mkM t 0) (mkE s x + mkE t 0) = mkE (s * t) x := by
  obtain ⟨a1, a2, a3, a4, a5⟩ := nx (x := x) h1 (by omega) (by omega)
  obtain ⟨b1, b2, b3, b4, b5⟩ := nx (x := 0) h2 (by omega) (by omega)
  obtain ⟨c1, _⟩ := nx (x := x) (h1.mul h2) (by omega) (by omega)
  have hz := zl_mul (mkM s x) (mkM t 0)
  have hr : mkR (mkM s x * mkM t 0) (mkE s x + mkE t 0) = 0 := mk_fits9 (by omega) (by omega) (by omega)
  exact ⟨hr, mk_uniq hr c1 (by rw [dq_mul, a5, b5, ← dq_mul, Int.add_zero])⟩
theorem nx_dbl {s x : Int} {j : Nat} (h1 : AbP s j) (hj : j ≤ 6000) (hx : -6000 ≤ x ∧ x ≤ 100) : mkR (mkM s x) (mkE s x + 1) = 0 ∧ mkM (mkM s x) (mkE s x + 1) = mkM (2 * s) x ∧ mkE (mkM s x) (mkE s x + 1) = mkE (2 * s) x := by
  obtain ⟨a1, a2, a3, a4, a5⟩ := nx (x := x) h1 (by omega) (by omega)
  have h2 : AbP (2 * s) (j + 1) := by
    rw [show 2 * s = s + s by omega]
    exact h1.add h1
  obtain ⟨c1, _⟩ := nx (x := x) h2 (by omega) (by omega)
  have hr : mkR (mkM s x) (mkE s x + 1) = 0 := mk_fits9 (by omega) (by omega) (by omega)
  refine ⟨hr, mk_uniq hr c1 ?_⟩
  have e1 := dq_mul (mkM s x) (mkE s x) 1 1
  have e2 := dq_mul 2 0 s x
  rw [Int.mul_one] at e1
  rw [Int.zero_add] at e2
  rw [e1, e2, a5, Rat.mul_comm]
  congr 1
/-- The numbers, one from the other. -/
structure LgN (q : Rat) (p : Nat) (Mi R Z Q : Int) : Prop where
  mi : (cutQ q ((p : Int) + 1) + 1) / 2 = Mi
  r : cutQ (1 / dq (Mi + 2 ^ p) (-(p : Int))) (p : Int) = R
  z : cutQ (dq (Mi - 2 ^ p) (-(p : Int)) * dq R (-(p : Int))) (p : Int) = Z
  q : cutQ (dq Z (-(p : Int)) * dq Z (-(p : Int))) (p : Int) = Q
structure LgB (q : Rat) (p : Nat) (Mi R Z Q : Int) : Prop where
  d1 : q ≤ dq Mi (-(p : Int)) + dq 1 (-(p : Int))
  d2 : dq Mi (-(p : Int)) ≤ q + dq 1 (-(p : Int))
  r1 : dq R (-(p : Int)) * (dq Mi (-(p : Int)) + 1) ≤ 1
  r2 : 1 ≤ (dq R (-(p : Int)) + dq 1 (-(p : Int))) * (dq Mi (-(p : Int)) + 1)
  z1 : dq Z (-(p : Int)) ≤ (dq Mi (-(p : Int)) - 1) * dq R (-(p : Int))
  z2 : (dq Mi (-(p : Int)) - 1) * dq R (-(p : Int)) ≤ dq Z (-(p : Int)) + dq 1 (-(p : Int))
  z3 : -(1 / 4) ≤ dq Z (-(p : Int))
  z4 : dq Z (-(p : Int)) ≤ 1 / 4
  q1 : dq Q (-(p : Int)) ≤ dq Z (-(p : Int)) * dq Z (-(p : Int))
  q2 : dq Z (-(p : Int)) * dq Z (-(p : Int)) ≤ dq Q (-(p : Int)) + dq 1 (-(p : Int))
  am : AbP Mi (p + 1)
  aA : AbP (Mi + 2 ^ p) (p + 2)
  aB : AbP (Mi - 2 ^ p) (p + 2)
  a1 : 1 ≤ dq (Mi + 2 ^ p) (-(p : Int))
  aR : AbP R p
  aZ : AbP Z p
  q0 : 0 ≤ Q
  q16 : 16 * Q < 2 ^ p
theorem LgN.all {q : Rat} {p : Nat} {Mi R Z Q : Int} (h : LgN q p Mi R Z Q) (hq1 : 3 / 4 ≤ q) (hq2 : q ≤ 3 / 2) (hp : 32 ≤ p) : LgB q p Mi R Z Q := by
  obtain ⟨h1, h2, h3, h4⟩ := h
  have hu := dq_pos (-(p : Int))
  have hu1 := u1000 hp
  obtain ⟨d1, d2⟩ := near_bd q p h1
  have eA : dq (Mi + 2 ^ p) (-(p : Int)) = dq Mi (-(p : Int)) + 1 := by rw [dq_addI, one_p]
  have eB : dq (Mi - 2 ^ p) (-(p : Int)) = dq Mi (-(p : Int)) - 1 := by rw [Int.sub_eq_add_neg, dq_addI, dq_neg, one_p, Rat.sub_eq_add_neg]
  have a1 : 1 ≤ dq (Mi + 2 ^ p) (-(p : Int)) := by
    rw [eA]
    generalize dq Mi (-(p : Int)) = x at *
    generalize dq 1 (-(p : Int)) = u at *
    clear h1 h2 h3 h4 eA eB
    grind
  obtain ⟨_, r2, _, r4, r5, r6⟩ := rec_bd (p := p) (b := 0) (k := p) a1 (by omega)
  rw [h2] at r2 r4 r5
  rw [eA] at r4 r5
  have z1 := cut_lo (dq (Mi - 2 ^ p) (-(p : Int)) * dq R (-(p : Int))) (p : Int)
  have z2 := cut_hi (dq (Mi - 2 ^ p) (-(p : Int)) * dq R (-(p : Int))) (p : Int)
  rw [h3, eB] at z1 z2
  obtain ⟨z3, z4⟩ := ln_argz4 hq1 hq2 (Rat.le_of_lt hu) hu1 d1 d2 r4 r5 z1 (Rat.le_of_lt z2)
  have q1 := cut_lo (dq Z (-(p : Int)) * dq Z (-(p : Int))) (p : Int)
  have q2 := cut_hi (dq Z (-(p : Int)) * dq Z (-(p : Int))) (p : Int)
  have q0 := cut_nn (rsq_nn (dq Z (-(p : Int)))) (p := (p : Int))
  rw [h4] at q0 q1 q2
  have zz : dq Z (-(p : Int)) * dq Z (-(p : Int)) ≤ 3 / 50 := by
    generalize dq Z (-(p : Int)) = z at *
    rcases (Rat.le_total : 0 ≤ z ∨ z ≤ 0) with h | h
    · have := rmul_le z4 z4 h (by grind)
      grind
    · have := rmul_le (a := -z) (b := 121 / 500) (c := -z) (d := 121 / 500) (by grind) (by grind) (by grind) (by grind)
      grind
  have t2 : ∀ y : Int, dq y (-(p : Int)) ≤ 2 → y ≤ 2 * 2 ^ p := fun y hy => (dq_le_iff _ _ (-(p : Int))).1 (by
    have e : dq (2 * 2 ^ p) (-(p : Int)) = 2 := by
      rw [dq_scale, Rat.intCast_mul, Rat.mul_assoc, two_cast, Rat.mul_one]
      rfl
    rw [e]; exact hy)
  have mb1 : Mi ≤ 2 * 2 ^ p := t2 Mi (by
    generalize dq Mi (-(p : Int)) = x at *
    generalize dq 1 (-(p : Int)) = u at *
    clear h1 h2 h3 h4 eA eB
    grind)
  have mb0 : 0 ≤ Mi := (dq_le_iff _ _ (-(p : Int))).1 (by
    rw [dq_zero]
    generalize dq Mi (-(p : Int)) = x at *
    generalize dq 1 (-(p : Int)) = u at *
    clear h1 h2 h3 h4 eA eB
    grind)
  have hp0 := pow2_pos p
  have e1 : (2 : Int) ^ (p + 1) = 2 * 2 ^ p := by rw [Int.pow_succ, Int.mul_comm]
  have e2 : (2 : Int) ^ (p + 2) = 4 * 2 ^ p := by rw [Int.pow_succ, Int.pow_succ]; omega
  refine ⟨d1, d2, r4, r5, z1, Rat.le_of_lt z2, by grind, by grind, q1, Rat.le_of_lt q2, abp_in (by omega) (by omega), abp_in (by omega) (by omega), abp_in (by omega) (by omega), a1, r2, dq_abp (by grind) (by grind), q0, ?_⟩
  refine Int.not_le.1 fun hle => ?_
  have h9 := (dq_le_iff _ _ (-(p : Int))).2 hle
  rw [one_p, dq_scale, Rat.intCast_mul, Rat.mul_assoc, ← dq_scale] at h9
  have e : ((16 : Int) : Rat) = 16 := rfl
  rw [e] at h9
  generalize dq Q (-(p : Int)) = x at *
  generalize dq Z (-(p : Int)) * dq Z (-(p : Int)) = y at *
  clear h1 h2 h3 h4 eA eB z1 z2 r4 r5
  grind
/-- What the sum says of the logarithm, given the logarithm of 2. -/
def LogOk (m e L : Int) (p : Nat) (S : Int) : Prop := UpE (dq L (-(p : Int))) 2 → LoE 2 (dq (L + 2) (-(p : Int))) → (spK m e).natAbs ≤ 3000 → UpE (dq (S - 32768) (-(p : Int))) (dq m e) ∧ LoE (dq m e) (dq (S + 32768) (-(p : Int)))
theorem LgB.gs {q : Rat} {p n : Nat} {Mi R Z Q T G : Int} (h : LgB q p Mi R Z Q) (s : SerOk Q p n T) (hp : 32 ≤ p) (hG : cutQ (dq Z (-(p : Int)) * dq T (-(p : Int))) (p : Int) = G) : AbP G p := by
  have hu := dq_pos (-(p : Int))
  have hu1 := u1000 hp
  have g1 := cut_lo (dq Z (-(p : Int)) * dq T (-(p : Int))) (p : Int)
  have g2 := cut_hi (dq Z (-(p : Int)) * dq T (-(p : Int))) (p : Int)
  rw [hG] at g1 g2
  have q0 := (dq_le_iff 0 Q (-(p : Int))).2 h.q0
  rw [dq_zero] at q0
  have q16 : dq Q (-(p : Int)) ≤ 1 / 16 := by
    have h1 := (dq_le_iff (16 * Q) (2 ^ p) (-(p : Int))).2 (by have := h.q16; omega)
    rw [one_p, dq_scale, Rat.intCast_mul, Rat.mul_assoc, ← dq_scale] at h1
    have e : ((16 : Int) : Rat) = 16 := rfl
    rw [e] at h1
    generalize dq Q (-(p : Int)) = x at *
    grind
  have t1 := Rat.le_trans s.up (hr_le q0 q16 n 0)
  have t0 := (dq_le_iff 0 T (-(p : Int))).2 s.t0
  rw [dq_zero] at t0
  have b1 := Rat.mul_le_mul_of_nonneg_right h.z4 t0
  have b2 := Rat.mul_le_mul_of_nonneg_right h.z3 t0
  generalize dq Z (-(p : Int)) * dq T (-(p : Int)) = y at *
  generalize dq T (-(p : Int)) = t at *
  refine dq_abp ?_ ?_
  · generalize dq G (-(p : Int)) = g at *
    clear hG h s q0 q16
    grind
  · generalize dq G (-(p : Int)) = g at *
    clear hG h s q0 q16
    grind
theorem lg_ok {m e L : Int} {p n : Nat} {Mi R Z Q T G S : Int} (hm : 0 < m) (h : LgB (dq m (spE m)) p Mi R Z Q) (s : SerOk Q p n T) (hp : 32 ≤ p) (hp2 : p ≤ 4160) (hG : cutQ (dq Z (-(p : Int)) * dq T (-(p : Int))) (p : Int) = G) (hS : S = 2 * G + L * spK m e) : LogOk m e L p S := by
  intro l1 l2 hk
  have hu := dq_pos (-(p : Int))
  have hu1 := u1000 hp
  obtain ⟨m1, m2⟩ := sp_bd hm
  have g1 := cut_lo (dq Z (-(p : Int)) * dq T (-(p : Int))) (p : Int)
  have g2 := cut_hi (dq Z (-(p : Int)) * dq T (-(p : Int))) (p : Int)
  rw [hG] at g1 g2
  have q0 := (dq_le_iff 0 Q (-(p : Int))).2 h.q0
  rw [dq_zero] at q0
  have pw := s.pw (dq Z (-(p : Int)) * dq Z (-(p : Int))) (rsq_nn _) (by rw [dq_succ]; exact h.q2)
  rw [rp_sq] at pw
  have pn : 0 ≤ rp (dq Z (-(p : Int))) (2 * n) := by
    rw [← rp_sq]
    exact rp_nn (rsq_nn _) n
  have hz3 := h.z3
  have hz4 := h.z4
  have hr : rp (dq Z (-(p : Int))) (2 * n + 1) ≤ dq 1 (-(p : Int)) ∧ -dq 1 (-(p : Int)) ≤ rp (dq Z (-(p : Int))) (2 * n + 1) := by
    show rp (dq Z (-(p : Int))) (2 * n) * dq Z (-(p : Int)) ≤ _ ∧ _ ≤ rp (dq Z (-(p : Int))) (2 * n) * dq Z (-(p : Int))
    have b1 := Rat.mul_le_mul_of_nonneg_left hz4 pn
    have b2 := Rat.mul_le_mul_of_nonneg_left hz3 pn
    generalize rp (dq Z (-(p : Int))) (2 * n) = y at *
    generalize dq Z (-(p : Int)) = z at *
    generalize dq 1 (-(p : Int)) = u at *
    clear g1 g2 hG h s q0 l1 l2
    constructor <;> grind
  obtain ⟨x, y⟩ := ln_whole (n := n) m1 (Rat.le_of_lt m2) (Rat.le_of_lt hu) hu1 h.d1 h.d2 h.r1 h.r2 h.z1 h.z2 q0 h.q1 h.q2 s.up s.lo g1 (Rat.le_of_lt g2) hr.1 hr.2
  have hm0 : 0 < dq m (spE m) := (dq_gt0 _ _).2 hm
  have hn : (n : Rat) ≤ 1041 := by
    have : n ≤ 1041 := by have := s.n4; omega
    exact_mod_cast this
  have two : ∀ k : Nat, rp 2 k = dq 1 (k : Int) := fun k => by
    have := rp_two 1 k
    rw [Int.one_mul] at this
    rw [← this]
    rfl
  have eL2 : dq (L + 2) (-(p : Int)) = dq L (-(p : Int)) + 2 * dq 1 (-(p : Int)) := by
    rw [dq_addI]
    congr 1
    rw [dq_scale]
    rfl
  have eC : ∀ c : Int, dq (S + c) (-(p : Int)) = 2 * dq G (-(p : Int)) + (spK m e : Rat) * dq L (-(p : Int)) + (c : Rat) * dq 1 (-(p : Int)) := fun c => by
    rw [hS, dq_addI, dq_addI, dq_scale c, dq_scale (2 * G), dq_scale (L * spK m e), Rat.intCast_mul, Rat.intCast_mul, dq_scale G, dq_scale L]
    have e2 : ((2 : Int) : Rat) = 2 := rfl
    rw [e2]
    grind
  have eD : dq (S - 32768) (-(p : Int)) = 2 * dq G (-(p : Int)) + (spK m e : Rat) * dq L (-(p : Int)) - 32768 * dq 1 (-(p : Int)) := by
    rw [Int.sub_eq_add_neg, eC]
    have : (((-32768 : Int)) : Rat) = -32768 := rfl
    rw [this]
    grind
  have eE := eC 32768
  have e3 : (((32768 : Int)) : Rat) = 32768 := rfl
  rw [e3] at eE
  rw [eD, eE]
  rw [eL2] at l2
  have hsum := sp_sum m e
  have hNu : ((n : Rat) + 25) * dq 1 (-(p : Int)) ≤ 1066 * dq 1 (-(p : Int)) := Rat.mul_le_mul_of_nonneg_right (by grind) (Rat.le_of_lt hu)
  rcases Int.le_total 0 (spK m e) with hk0 | hk0
  · obtain ⟨k, hkk⟩ : ∃ k : Nat, spK m e = (k : Int) := ⟨(spK m e).toNat, by omega⟩
    have hkb : (k : Rat) ≤ 3000 := by
      have : k ≤ 3000 := by omega
      exact_mod_cast this
    have hku : (k : Rat) * dq 1 (-(p : Int)) ≤ 3000 * dq 1 (-(p : Int)) := Rat.mul_le_mul_of_nonneg_right hkb (Rat.le_of_lt hu)
    have a1 := ln_red_up x l1 k
    have a2 := ln_red_lo y hm0 l2 k
    have ee : dq m (spE m) * rp 2 k = dq m e := by
      rw [two, ← dq_mul, Int.mul_one]
      congr 1
      omega
    rw [ee] at a1 a2
    rw [hkk, Rat.intCast_natCast]
    have hpos := a1.pos
    generalize dq m e = w at *
    generalize dq L (-(p : Int)) = l at *
    generalize dq 1 (-(p : Int)) = u at *
    generalize dq G (-(p : Int)) = g at *
    have x1 : (k : Rat) * (l + 2 * u) = (k : Rat) * l + 2 * ((k : Rat) * u) := by grind
    rw [x1] at a2
    generalize (k : Rat) * l = kl at *
    generalize (k : Rat) * u = ku at *
    generalize ((n : Rat) + 25) * u = nu at *
    exact ⟨a1.mono (by clear a1 a2 x y; grind), a2.mono (by clear a1 a2 x y; grind) (Rat.le_of_lt hpos)⟩
  · obtain ⟨k, hkk⟩ : ∃ k : Nat, spK m e = -(k : Int) := ⟨(-(spK m e)).toNat, by omega⟩
    have hkb : (k : Rat) ≤ 3000 := by
      have : k ≤ 3000 := by omega
      exact_mod_cast this
    have hku : (k : Rat) * dq 1 (-(p : Int)) ≤ 3000 * dq 1 (-(p : Int)) := Rat.mul_le_mul_of_nonneg_right hkb (Rat.le_of_lt hu)
    have a1 := ln_red_up' x l2 k
    have a2 := ln_red_lo' y hm0 l1 k
    have ee : dq m (spE m) * (rp 2 k)⁻¹ = dq m e := by
      have h1 : dq m e * rp 2 k = dq m (spE m) := by
        rw [two, ← dq_mul, Int.mul_one]
        congr 1
        omega
      have h2 : rp 2 k * (rp 2 k)⁻¹ = 1 := Rat.mul_inv_cancel _ (Rat.ne_of_gt (rp_pos (by decide) k))
      rw [← h1, Rat.mul_assoc, h2, Rat.mul_one]
    rw [ee] at a1 a2
    rw [hkk, Rat.intCast_neg, Rat.intCast_natCast]
    have hpos := a1.pos
    generalize dq m e = w at *
    generalize dq L (-(p : Int)) = l at *
    generalize dq 1 (-(p : Int)) = u at *
    generalize dq G (-(p : Int)) = g at *
    have x1 : (k : Rat) * (l + 2 * u) = (k : Rat) * l + 2 * ((k : Rat) * u) := by grind
    rw [x1] at a1
    have x2 : -(k : Rat) * l = -((k : Rat) * l) := by grind
    rw [x2]
    generalize (k : Rat) * l = kl at *
    generalize (k : Rat) * u = ku at *
    generalize ((n : Rat) + 25) * u = nu at *
    exact ⟨a1.mono (by clear a1 a2 x y; grind), a2.mono (by clear a1 a2 x y; grind) (Rat.le_of_lt hpos)⟩

theorem odd_dq (kn : Nat) (h : kn ≤ 5000) : AbP (2 * (kn : Int) + 1) 14 ∧ dq (2 * (kn : Int) + 1) 0 = 2 * (kn : Rat) + 1 ∧ (1 : Rat) ≤ 2 * (kn : Rat) + 1 := by
  refine ⟨?_, ?_, ?_⟩
  · have e : (2 : Nat) ^ 14 = 16384 := by decide
    unfold AbP
    rw [e]
    omega
  · rw [dq_int]
    push_cast
    rfl
  · have := nat_nn kn
    grind

set_option maxHeartbeats 32000000 in
theorem lser_any (Q : Int) (p : Nat) (vx : Value) (w : World) (hx : IsD w vx (mkM Q (-(p : Int))) (mkE Q (-(p : Int)))) (zs K : Nat) (hS : SeP Q p zs K) (hK : (p : Int).tdiv (zs : Int) = (K : Int)) (hz1 : (cmpI (mkM Q (-(p : Int))) 0 == 0) = true → (zs : Int) = (p : Int) + 1) (hz2 : (cmpI (mkM Q (-(p : Int))) 0 == 0) = false → -(topZ (mkM Q (-(p : Int))) (mkE Q (-(p : Int)))) = (zs : Int)) (hp4 : 4 ≤ p) (hp : p ≤ 4160) (hT : Tab w) :
    Calls Tryz.prog 95 #[vx, .int .i64 (p : Int)] w (RetD8 w (mkM (seT Q p zs K (K + 1)) (-(p : Int))) (mkE (seT Q p zs K (K + 1)) (-(p : Int)))) := by
  obtain ⟨A, c, rfl, _, hn⟩ := hx.form
  have L0 := (Lq.mk0 w).n hn
  have HT := Lib.hid (fun W (hW : Below w.heap.size w W) => hT.mono hW)
  have hQb : AbP Q p := abp_of hS.q0 (by have := hS.q1; have := hS.q0; omega)
  obtain ⟨n1, n2, n3, n4, n5⟩ := nx (x := -(p : Int)) hQb (by omega) (by omega)
  have k4 := hS.k4
  have z4 := hS.z4
  have g1 := fun x W h => dtop_any (mkM Q (-(p : Int))) (mkE Q (-(p : Int))) x W h (by omega) (by omega) (dv_zero n4)
  have g2 := fun x W h => dsign_any (mkM Q (-(p : Int))) (mkE Q (-(p : Int))) x W h (by omega)
  obtain ⟨bd1, bd2⟩ := top_rng n4 (by omega) (by omega)
  obtain ⟨tz, htz⟩ : ∃ z, topZ (mkM Q (-(p : Int))) (mkE Q (-(p : Int))) = z := ⟨_, rfl⟩
  rw [htz] at g1 hz2 bd1 bd2
  obtain ⟨sg9, hsg9⟩ : ∃ z, cmpI (mkM Q (-(p : Int))) 0 = z := ⟨_, rfl⟩
  rw [hsg9] at g2 hz1 hz2
  obtain ⟨bz, hbz⟩ : ∃ b, (sg9 == 0) = b := ⟨_, rfl⟩
  rw [hbz] at hz1 hz2
  have HN := Lib.hid (And.intro n2 n3)
  have HQ5 := Lib.hid n5
  obtain ⟨M, hM⟩ : ∃ z, mkM Q (-(p : Int)) = z := ⟨_, rfl⟩
  obtain ⟨E, hE⟩ : ∃ z, mkE Q (-(p : Int)) = z := ⟨_, rfl⟩
  rw [hM] at L0 HN HQ5 ⊢
  rw [hE] at HN HQ5 ⊢
  rw [hM, hE] at g1 g2
  have HZ := Lib.hid (And.intro hz1 hz2)
  have hzs : zs ≤ p + 1 := by rcases hS.zp with h9 | h9 <;> omega
  have w1 : IntKind.i64.wrap (-tz) = -tz := by rw [IntKind.wrap_i64]; omega
  have w2 : IntKind.i64.wrap ((p : Int) + 1) = (p : Int) + 1 := by rw [IntKind.wrap_i64]; omega
  have w3 : IntKind.i64.wrap (K : Int) = (K : Int) := by rw [IntKind.wrap_i64]; omega
  have hz0 : ¬ (zs : Int) = 0 := by omega
  have HS := Lib.hid hS
  have HP := Lib.hid (And.intro hp4 (And.intro hp (And.intro k4 (And.intro z4 hzs))))
  have G1 := Lib.hid g1
  have G2 := Lib.hid g2
  clear g1 g2 n1 n2 n3 n4 n5 hS hz1 hz2 hsg9 htz hM hE hQb hx hn hT bd1 bd2 k4 z4
  go_enter Tryz.func95, Tryz.ntmps95
  have L := ((L0.varD (w.heap.size) (by simp) (ng M) A (zl M) c E).varD (w.heap.size + 1) (by simp) false none 0 0 0)
  have c10 := L.tl.b0.c30
  have c11 := L.tl.b0.c31
  have c12 := L.tl.b0.c32
  (try go_wp2_with fail)
  refine (G1.out _ _ (isD_n (m := M) (e := E) (s := .slice A (zl M) c) (L.getN (by simp)))).mono ?_
  rintro e w1 ⟨rfl, be⟩
  clear c10 c11 c12
  replace L := L.step be
  clear be
  have c10 := L.tl.b0.c30
  have c11 := L.tl.b0.c31
  have c12 := L.tl.b0.c32
  (try go_wp2_with fail)
  refine (G2.out _ _ (isD_n (m := M) (e := E) (s := .slice A (zl M) c) (L.getN (by simp)))).mono ?_
  rintro e w2 ⟨rfl, be⟩
  clear c10 c11 c12
  replace L := L.step be
  clear be
  go_upto_if 14 with fail
  go_cut [5] from 15 to 17 (fun s5 wx => s5 = .int .i64 (zs : Int) ∧ Lq w wx [(.slice A (zl M) c, M.natAbs)] [] [] [(w.heap.size + 1, 26, #[.bool false, .slice none 0 0, .int .i64 0]), (w.heap.size, 26, #[.bool (ng M), .slice A (zl M) c, .int .i64 E])])
  case first =>
    cases bz
    · go_wp2_with fail
      go_meet
      exact ⟨by rw [HZ.out.2 trivial], L⟩
    · go_wp2_with fail
      go_meet
      exact ⟨by rw [HZ.out.1 trivial], L⟩
  case rest =>
    clear L HZ G1 G2 w1 hbz
    obtain ⟨rfl, L⟩ := hcut
    generalize wc = wd at *
    have hl9 := L.b0.lt
    replace L := L.varD wd.heap.size rfl false none 0 0 0
    have c00 := L.b0.c30
    have c01 := L.b0.c31
    have c02 := L.b0.c32
    go_wp2_with fail
    clear c00 c01 c02
    obtain ⟨gt, hgt⟩ : ∃ g9, wd.heap.size = g9 := ⟨_, rfl⟩
    rw [hgt] at L hl9 ⊢
    clear hgt
    go_loopw [7] (fun i wr => ∃ (j : Nat) (kz T N G : Int) (B : Option Addr) (d : Nat), i = .int .i64 kz ∧ (-1 ≤ kz ∧ kz ≤ (K : Int)) ∧ Lq w wr [(.slice B (zl N) d, N.natAbs), (.slice A (zl M) c, M.natAbs)] [] [] [(gt, 26, #[.bool (ng N), .slice B (zl N) d, .int .i64 G]), (w.heap.size + 1, 26, #[.bool false, .slice none 0 0, .int .i64 0]), (w.heap.size, 26, #[.bool (ng M), .slice A (zl M) c, .int .i64 E])] ∧ Hid (kz = (K : Int) - (j : Int) ∧ seT Q p zs K j = T ∧ mkM T (-((p : Int) - (((K + 1 - j) * zs : Nat) : Int))) = N ∧ mkE T (-((p : Int) - (((K + 1 - j) * zs : Nat) : Int))) = G)) (fun i _ => (intOf i + 1).toNat)
    case atStart =>
      have hx0 : -20000 ≤ -((p : Int) - (((K + 1 - 0) * zs : Nat) : Int)) ∧ -((p : Int) - (((K + 1 - 0) * zs : Nat) : Int)) ≤ 20000 := by
        obtain ⟨_, hp, k4, _, hzs⟩ := HP.out
        have h9 := HS.out.kz
        rw [Nat.sub_zero, Nat.add_mul, Nat.one_mul]
        omega
      refine ⟨0, (K : Int), 0, 0, 0, none, 0, by go_num, by omega, ?_, Lib.hid ⟨by omega, rfl, (nx_zero hx0).1, (nx_zero hx0).2⟩⟩
      have zz0 : zl 0 = 0 := zl_zero
      have nn0 : ng 0 = false := rfl
      rw [zz0, nn0]
      exact (L.n (IsN.zero _)).subx (by simp) (by simp)
    case round =>
      clear L
      obtain ⟨j, kz, T, N, G, B, d, rfl, hkz, L, HJ⟩ := hrel
      have hl0 := L.b0.lt
      obtain ⟨hp4, hp, k4, z4, hzs⟩ := HP.out
      rcases Int.lt_or_le kz 0 with hneg | hpos
      · have hd : ¬ 0 ≤ kz := by omega
        obtain ⟨hj, hTj, hM, hE⟩ := HJ.out
        have ej : j = K + 1 := by omega
        subst ej
        rw [show (p : Int) - (((K + 1 - (K + 1)) * zs : Nat) : Int) = (p : Int) by simp] at hM hE
        subst hTj
        clear HJ hj
        have L9 := L.subx (ns' := [(.slice B (zl N) d, N.natAbs)]) (bs' := [(w.heap.size + 1, 26, #[.bool false, .slice none 0 0, .int .i64 0]), (gt, 26, #[.bool (ng N), .slice B (zl N) d, .int .i64 G])]) (by simp) (by simp)
        clear L
        have L := L9
        clear L9
        have cel00 := L.b0.c30
        have f00 := L.b0.fr 0
        have cel01 := L.b0.c31
        have f01 := L.b0.fr 1
        have cel02 := L.b0.c32
        have f02 := L.b0.fr 2
        have cel10 := L.tl.b0.c30
        have cel11 := L.tl.b0.c31
        have cel12 := L.tl.b0.c32
        (try go_wp2_with fail)
        clear cel00 f00 cel01 f01 cel02 f02 cel10 cel11 cel12
        subst hM hE
        have LP := L.putD (by omega) (by first | (simp; done) | (simp; omega)) (ng (mkM (seT Q p zs K (K + 1)) (-(p : Int)))) B (zl (mkM (seT Q p zs K (K + 1)) (-(p : Int)))) d (mkE (seT Q p zs K (K + 1)) (-(p : Int)))
        have k0 := LP.b0.c30
        have k1 := LP.b0.c31
        have k2 := LP.b0.c32
        unfold put3 at k0 k1 k2
        exact bodyPost_ret (v := .agg #[.bool (ng (mkM (seT Q p zs K (K + 1)) (-(p : Int)))), .slice B (zl (mkM (seT Q p zs K (K + 1)) (-(p : Int)))) d, .int .i64 (mkE (seT Q p zs K (K + 1)) (-(p : Int)))]) (by simp [results, Tryz.results95, go_sem, k0, k1, k2]) rfl ⟨_, rfl, isD_n (LP.getN (by simp)), LP.below⟩
      · obtain ⟨kn, rfl⟩ : ∃ kn : Nat, kz = (kn : Int) := ⟨kz.toNat, by omega⟩
        obtain ⟨hj, hTj, hM, hE⟩ := HJ.out
        have hS := HS.out
        have hjk : j + kn = K := by omega
        have hI := seJ_all hS j (by omega)
        have hnx := se_nd hS hjk
        have hsx : seT Q p zs K (j + 1) = cutQ (dq (seT Q p zs K j) (-((p : Int) - (((K + 1 - j) * zs : Nat) : Int))) * dq Q (-(p : Int))) ((p - (K - j) * zs : Nat) : Int) + cutQ (1 / (2 * ((K - j : Nat) : Rat) + 1)) ((p - (K - j) * zs : Nat) : Int) := rfl
        have hxn : (p : Int) - (((K + 1 - (j + 1)) * zs : Nat) : Int) = ((p - (K - j) * zs : Nat) : Int) := by
          rw [show K + 1 - (j + 1) = K - j by omega]
          rw [show K - j = kn by omega] at hnx ⊢
          omega
        rw [show K - j = kn by omega] at hsx hxn hnx
        rw [hTj] at hI hsx
        obtain ⟨x, hx⟩ : ∃ x, (p : Int) - (((K + 1 - j) * zs : Nat) : Int) = x := ⟨_, rfl⟩
        rw [hx] at hI hM hE hsx
        have hky : kn * zs ≤ K * zs := Nat.mul_le_mul_right _ (by omega)
        have hkz9 := hS.kz
        obtain ⟨nd, hnd⟩ : ∃ nd : Nat, p - kn * zs = nd := ⟨_, rfl⟩
        rw [hnd] at hsx hxn hnx
        obtain ⟨F1, hF1⟩ : ∃ z, cutQ (dq T (-x) * dq Q (-(p : Int))) (nd : Int) = z := ⟨_, rfl⟩
        obtain ⟨F2, hF2⟩ : ∃ z, cutQ (1 / (2 * (kn : Rat) + 1)) (nd : Int) = z := ⟨_, rfl⟩
        rw [hF1, hF2] at hsx
        obtain ⟨hJ2, a1, a2⟩ := hI.step hS hjk hnx hF1 hF2
        obtain ⟨o1, o2, o3⟩ := odd_dq kn (by omega)
        obtain ⟨hx1, hx2⟩ := hI.rng hS
        obtain ⟨t1, t2, t3, _, t5⟩ := nx (x := -x) (hI.size hS) (by omega) (by omega)
        have hGb : -4500 ≤ mkE T (-x) ∧ mkE T (-x) ≤ 4500 := by
          rcases hI.tx with e9 | e9
          · rw [e9, (nx_zero (by omega)).2]; omega
          · omega
        rw [hM] at t2 t5
        rw [hE] at t3 t5 hGb
        obtain ⟨q2, q3⟩ := HN.out
        have q5 := HQ5.out
        have g3 := fun u v W h i (hW : Below w.heap.size w W) => lprod_any N G M E F1 nd u v W h i (by omega) (by omega) (by omega) (by omega) (by rw [t5, q5]; exact hF1) (a1.up (by omega)) (by omega) (HT.out W hW)
        obtain ⟨v1, v2, v3, v4, v5⟩ := nx (x := 0) o1 (by omega) (by omega)
        have g4 := fun W (hW : Below w.heap.size w W) => dof_any (2 * (kn : Int) + 1) W (by omega) (by omega) (HT.out W hW)
        have g5 := fun u W h (hW : Below w.heap.size w W) => lrec_any (mkM (2 * (kn : Int) + 1) 0) (mkE (2 * (kn : Int) + 1) 0) F2 nd u W h v4 (by omega) (by omega) (by rw [v5, o2]; exact o3) (by rw [v5, o2]; exact hF2) (by omega) (HT.out W hW)
        obtain ⟨b1, b2, b3, _, _⟩ := nx (x := -(nd : Int)) a1 (by omega) (by omega)
        obtain ⟨d1, d2, d3, _, _⟩ := nx (x := -(nd : Int)) a2 (by omega) (by omega)
        obtain ⟨s1, s2, s3⟩ := nx_add (x := -(nd : Int)) a1 a2 (by omega) (by omega)
        have g6 := fun u v W h i (hW : Below w.heap.size w W) => dadd_any (mkM F1 (-(nd : Int))) (mkE F1 (-(nd : Int))) (mkM F2 (-(nd : Int))) (mkE F2 (-(nd : Int))) u v W h i (by omega) (by omega) (by omega) (by omega) (HT.out W hW)
        rw [s1, s2, s3] at g6
        obtain ⟨T2, hT2⟩ : ∃ z, F1 + F2 = z := ⟨_, rfl⟩
        rw [hT2] at g6 hsx
        obtain ⟨N2, hN2⟩ : ∃ z, mkM T2 (-(nd : Int)) = z := ⟨_, rfl⟩
        obtain ⟨K2, hK2⟩ : ∃ z, mkE T2 (-(nd : Int)) = z := ⟨_, rfl⟩
        rw [hN2, hK2] at g6
        have HQ := Lib.hid (show (kn : Int) - 1 = (K : Int) - ((j + 1 : Nat) : Int) ∧ seT Q p zs K (j + 1) = T2 ∧ mkM T2 (-((p : Int) - (((K + 1 - (j + 1)) * zs : Nat) : Int))) = N2 ∧ mkE T2 (-((p : Int) - (((K + 1 - (j + 1)) * zs : Nat) : Int))) = K2 from ⟨by omega, hsx, by rw [hxn]; exact hN2, by rw [hxn]; exact hK2⟩)
        obtain ⟨y, hy⟩ : ∃ y : Nat, kn * zs = y := ⟨_, rfl⟩
        have hyi : (kn : Int) * (zs : Int) = (y : Int) := by rw [← hy]; push_cast; rfl
        have w4 : IntKind.i64.wrap ((kn : Int) * (zs : Int)) = (y : Int) := by rw [hyi, IntKind.wrap_i64]; omega
        have w5 : IntKind.i64.wrap ((p : Int) - (y : Int)) = (nd : Int) := by rw [IntKind.wrap_i64]; omega
        have w6 : IntKind.i64.wrap (2 * (kn : Int)) = 2 * (kn : Int) := by rw [IntKind.wrap_i64]; omega
        have w7 : IntKind.i64.wrap (2 * (kn : Int) + 1) = 2 * (kn : Int) + 1 := by rw [IntKind.wrap_i64]; omega
        have w8 : IntKind.i64.wrap ((kn : Int) - 1) = (kn : Int) - 1 := by rw [IntKind.wrap_i64]; omega
        clear hGb hj hI hM hE hS hky hkz9 hF1 hF2 hJ2 hTj hsx hxn hnx hx a1 a2 o1 o2 o3 hx1 hx2 t1 t2 t3 t5 q2 q3 q5 v1 v2 v3 v4 v5 b1 b2 b3 d1 d2 d3 s1 s2 s3 hT2 hN2 hK2 HJ hy hyi hnd
        generalize mkM (2 * (kn : Int) + 1) 0 = Mo at *
        generalize mkE (2 * (kn : Int) + 1) 0 = Eo at *
        generalize mkM F1 (-(nd : Int)) = M3 at *
        generalize mkE F1 (-(nd : Int)) = E3 at *
        generalize mkM F2 (-(nd : Int)) = M5 at *
        generalize mkE F2 (-(nd : Int)) = E5 at *
        have G3 := Lib.hid g3
        have G4 := Lib.hid g4
        have G5 := Lib.hid g5
        have G6 := Lib.hid g6
        clear g3 g4 g5 g6
        have cel00 := L.b0.c30
        have f00 := L.b0.fr 0
        have cel01 := L.b0.c31
        have f01 := L.b0.fr 1
        have cel02 := L.b0.c32
        have f02 := L.b0.fr 2
        have cel20 := L.tl.tl.b0.c30
        have cel21 := L.tl.tl.b0.c31
        have cel22 := L.tl.tl.b0.c32
        (try go_wp2_with fail)
        refine (G3.out _ _ _ (isD_n (m := N) (e := G) (s := .slice B (zl N) d) (L.getN (by simp))) (isD_n (m := M) (e := E) (s := .slice A (zl M) c) (L.getN (by simp))) L.below).mono ?_
        rintro e w61 ⟨v9, rfl, iz, be⟩
        clear cel00 f00 cel01 f01 cel02 f02 cel20 cel21 cel22
        obtain ⟨A3, c3, rfl, _, in9⟩ := iz.form
        replace L := (L.step be).n in9
        clear be iz in9
        (try go_wp2_with fail)
        refine (G4.out _ L.below).mono ?_
        rintro e w62 ⟨v9, rfl, iz, be⟩
        obtain ⟨A4, c4, rfl, _, in9⟩ := iz.form
        replace L := (L.step be).n in9
        clear be iz in9
        (try go_wp2_with fail)
        refine (G5.out _ _ (isD_n (m := Mo) (e := Eo) (s := .slice A4 (zl Mo) c4) (L.getN (by simp))) L.below).mono ?_
        rintro e w63 ⟨v9, rfl, iz, be⟩
        obtain ⟨A5, c5, rfl, _, in9⟩ := iz.form
        replace L := (L.step be).n in9
        clear be iz in9
        (try go_wp2_with fail)
        refine (G6.out _ _ _ (isD_n (m := M3) (e := E3) (s := .slice A3 (zl M3) c3) (L.getN (by simp))) (isD_n (m := M5) (e := E5) (s := .slice A5 (zl M5) c5) (L.getN (by simp))) L.below).mono ?_
        rintro e w64 ⟨v9, rfl, iz, be⟩
        obtain ⟨A6, c6, rfl, _, in9⟩ := iz.form
        replace L := (L.step be).n in9
        clear be iz in9
        have cel00 := L.b0.c30
        have f00 := L.b0.fr 0
        have cel01 := L.b0.c31
        have f01 := L.b0.fr 1
        have cel02 := L.b0.c32
        have f02 := L.b0.fr 2
        have P := L.putD (by omega) (by simp; omega) (ng N2) A6 (zl N2) c6 K2
        unfold put3 at P
        go_wp2_with fail
        go_roundw
        case rel => exact ⟨j + 1, (kn : Int) - 1, T2, N2, K2, A6, c6, by go_num, by omega, P.subx (by simp) (by simp), HQ⟩
        case measure => simp [intOf]

set_option maxHeartbeats 16000000 in
theorem lsplit_any (m e : Int) (vx : Value) (w : World) (hx : IsD w vx m e) (hm : 0 < m) (hv : Dv m e) (lm : zl m ≤ 400) (he : -70000 ≤ e ∧ e ≤ 70000) (hT : Tab w) :
    Calls Tryz.prog 28 #[vx] w (RetSK w (spK m e) m (spE m) 0) := by
  obtain ⟨A, c, rfl, _, hn⟩ := hx.form
  have L0 := (Lq.mk0 w).n hn
  obtain ⟨n, hn9⟩ : ∃ n, spN m = n := ⟨_, rfl⟩
  have hnb := spN_le m
  rw [hn9] at hnb
  have g1 := fun x W h => dvalid_d m e x W h (by omega)
  have hval : (if m = 0 then decide (e = 0) else fits8 m e) = true := by
    rcases hv with ⟨h9, _⟩ | ⟨_, h9⟩
    · omega
    · rw [if_neg (by omega)]; exact h9
  rw [hval] at g1
  have g2 := fun x W h => dsign_any m e x W h (by omega)
  rw [cmpI_gt hm] at g2
  have g3 := fun x W h => dtop_any m e x W h (by omega) (by omega) (by omega)
  have htop : topZ m e = e + (n : Int) := by
    unfold topZ
    rw [if_neg (by omega), ← hn9]
    unfold spN
    omega
  rw [htop] at g3
  obtain ⟨a1, a2, a3⟩ := dv_mk (x := -(n : Int)) (dv_at hv hm (by omega)) (by omega) (by omega)
  have g4 := fun x W h (hW : Below w.heap.size w W) => dmake_any m (-(n : Int)) x W h (by omega) (hT.mono hW)
  rw [a1, a2, a3] at g4
  have z3 : zl 3 ≤ 1 := len_le1 (show 3 < 4294967296 by omega)
  have dv3 : ∀ x : Int, -60000 ≤ x ∧ x ≤ 60000 → Dv 3 x := fun x hx => dv_at (m := 3) (e := 0) (Or.inr ⟨by decide, by decide +kernel⟩) (by decide) hx
  obtain ⟨b1, b2, b3⟩ := dv_mk (x := 0) (dv3 0 (by omega)) (by omega) (by omega)
  have g5 := fun W (hW : Below w.heap.size w W) => dof_any 3 W (by omega) (by omega) (hT.mono hW)
  rw [b2, b3] at g5
  obtain ⟨d1, d2, d3⟩ := dv_mk (x := 0 + -2) (dv3 _ (by omega)) (by omega) (by omega)
  have g6 := fun x W h (hW : Below w.heap.size w W) => dshift_any 3 0 (-2) x W h (by omega) (by omega) (by omega) (hT.mono hW)
  rw [d1, d2, d3, show (0 : Int) + -2 = -2 from rfl] at g6
  have g7 := fun x y W h j => dcmp_any m (-(n : Int)) 3 (-2) x y W h j (by omega) (by omega) (by omega) (by omega)
  have hlt := dcm_lt m (-(n : Int)) 3 (-2)
  rw [show cmpI (m * 2 ^ (-(n : Int) - min (-(n : Int)) (-2)).toNat) (3 * 2 ^ (-2 - min (-(n : Int)) (-2)).toNat) = dcm m (-(n : Int)) 3 (-2) from rfl] at g7
  have hlt2 : dq m (-(n : Int)) < dq 3 (-2) ↔ 4 * m < 3 * 2 ^ n := by
    have e1 : dq m (-(n : Int)) = dq (4 * m) (-(n : Int) - 2) := by
      refine dq_eq (F := -(n : Int) - 2) ?_ (by omega) (by omega)
      rw [show (-(n : Int) - (-(n : Int) - 2)).toNat = 2 by omega, show (-(n : Int) - 2 - (-(n : Int) - 2)).toNat = 0 by omega]
      omega
    have e2 : dq 3 (-2) = dq (3 * 2 ^ n) (-(n : Int) - 2) := by
      refine dq_eq (F := -(n : Int) - 2) ?_ (by omega) (by omega)
      rw [show (-2 - (-(n : Int) - 2)).toNat = n by omega, show (-(n : Int) - 2 - (-(n : Int) - 2)).toNat = 0 by omega]
      simp
    rw [e1, e2]
    constructor
    · intro h
      refine Int.not_le.1 fun hle => Rat.not_le.2 h ((dq_le_iff _ _ _).2 hle)
    · intro h
      refine Rat.not_le.1 fun hle => ?_
      have := (dq_le_iff _ _ _).1 hle
      omega
  rw [hlt2] at hlt
  generalize dcm m (-(n : Int)) 3 (-2) = cm at *
  obtain ⟨k1, k2, k3⟩ := dv_mk (x := -(n : Int) + 1) (dv_at hv hm (by omega)) (by omega) (by omega)
  have g8 := fun x W h (hW : Below w.heap.size w W) => dshift_any m (-(n : Int)) 1 x W h (by omega) (by omega) (by omega) (hT.mono hW)
  rw [k1, k2, k3] at g8
  have w1 : IntKind.i64.wrap (e - (e + (n : Int))) = -(n : Int) := by rw [IntKind.wrap_i64]; omega
  have w2 : IntKind.i64.wrap (e + (n : Int) - 1) = e + (n : Int) - 1 := by rw [IntKind.wrap_i64]; omega
  have hres : (cm < 0 → spK m e = e + (n : Int) - 1 ∧ spE m = -(n : Int) + 1) ∧ (0 ≤ cm → spK m e = e + (n : Int) ∧ spE m = -(n : Int)) := by
    unfold spK spE spB
    rw [hn9]
    refine ⟨fun h => ?_, fun h => ?_⟩
    · rw [decide_eq_true (hlt.1 h), if_pos rfl, if_pos rfl]; omega
    · rw [decide_eq_false (fun h9 => by have := hlt.2 h9; omega), if_neg (by decide), if_neg (by decide)]; omega
  have HR := Lib.hid hres
  clear hres hlt hlt2 k1 k2 k3 a1 a2 a3 b1 b2 b3 d1 d2 d3 z3 dv3 htop hval hnb hn9 hx hm hv lm hn hT he
  have G1 := Lib.hid g1
  have G2 := Lib.hid g2
  have G3 := Lib.hid g3
  have G4 := Lib.hid g4
  have G5 := Lib.hid g5
  have G6 := Lib.hid g6
  have G7 := Lib.hid g7
  have G8 := Lib.hid g8
  clear g1 g2 g3 g4 g5 g6 g7 g8
  rcases Int.lt_or_le cm 0 with hcm | hcm
  · have d9 : decide (cm < 0) = true := decide_eq_true hcm
    obtain ⟨r1, r2⟩ := HR.out.1 hcm
    rw [r1, r2]
    clear HR r1 r2
    obtain ⟨e9, he9⟩ : ∃ z, -(n : Int) + 1 = z := ⟨_, rfl⟩
    obtain ⟨k9, hk9⟩ : ∃ z, e + (n : Int) - 1 = z := ⟨_, rfl⟩
    have w3 : IntKind.i64.wrap (e + (n : Int) - 1) = k9 := w2.trans hk9
    have g8 := G8.out
    rw [he9] at g8 ⊢
    rw [hk9]
    clear G8 w2 hk9 he9
    have G8 := Lib.hid g8
    clear g8
    go_enter Tryz.func28, Tryz.ntmps28
    have L := ((L0.varD (w.heap.size) (by simp) (ng m) A (zl m) c e).varD (w.heap.size + 1) (by simp) false none 0 0 0)
    have c10 := L.tl.b0.c30
    have c11 := L.tl.b0.c31
    have c12 := L.tl.b0.c32
    (try go_wp2_with fail)
    refine (G1.out _ _ (isD_n (m := m) (e := e) (s := .slice A (zl m) c) (L.getN (by simp)))).mono ?_
    rintro e w1 ⟨rfl, be⟩
    clear c10 c11 c12
    replace L := L.step be
    clear be
    have c10 := L.tl.b0.c30
    have c11 := L.tl.b0.c31
    have c12 := L.tl.b0.c32
    (try go_wp2_with fail)
    refine (G2.out _ _ (isD_n (m := m) (e := e) (s := .slice A (zl m) c) (L.getN (by simp)))).mono ?_
    rintro e w2 ⟨rfl, be⟩
    clear c10 c11 c12
    replace L := L.step be
    clear be
    have c10 := L.tl.b0.c30
    have c11 := L.tl.b0.c31
    have c12 := L.tl.b0.c32
    (try go_wp2_with fail)
    refine (G3.out _ _ (isD_n (m := m) (e := e) (s := .slice A (zl m) c) (L.getN (by simp)))).mono ?_
    rintro e w3 ⟨rfl, be⟩
    clear c10 c11 c12
    replace L := L.step be
    clear be
    have c10 := L.tl.b0.c30
    have c11 := L.tl.b0.c31
    have c12 := L.tl.b0.c32
    (try go_wp2_with fail)
    refine (G4.out _ _ ⟨_, rfl, L.getN (by simp)⟩ L.below).mono ?_
    rintro e w4 ⟨v9, rfl, iz, be⟩
    clear c10 c11 c12
    obtain ⟨A1, c1, rfl, _, in9⟩ := iz.form
    replace L := (L.step be).n in9
    clear be iz in9
    have hl9 := L.b0.lt
    replace L := L.varD w4.heap.size rfl (ng m) A1 (zl m) c1 (-(n : Int))
    have c00 := L.b0.c30
    have c01 := L.b0.c31
    have c02 := L.b0.c32
    go_wp2_with fail
    clear c00 c01 c02
    obtain ⟨g1, hg1⟩ : ∃ g9, w4.heap.size = g9 := ⟨_, rfl⟩
    rw [hg1] at L hl9 ⊢
    clear hg1
    have hl_g1 := hl9
    clear hl9
    refine (G5.out _ L.below).mono ?_
    rintro e w5 ⟨v9, rfl, iz, be⟩
    obtain ⟨A2, c2, rfl, _, in9⟩ := iz.form
    replace L := (L.step be).n in9
    clear be iz in9
    (try go_wp2_with fail)
    refine (G6.out _ _ (isD_n (m := 3) (e := 0) (s := .slice A2 (zl 3) c2) (L.getN (by simp))) L.below).mono ?_
    rintro e w6 ⟨v9, rfl, iz, be⟩
    obtain ⟨A3, c3, rfl, _, in9⟩ := iz.form
    replace L := (L.step be).n in9
    clear be iz in9
    have hl9 := L.b0.lt
    replace L := L.varD w6.heap.size rfl (ng 3) A3 (zl 3) c3 (-2)
    have c00 := L.b0.c30
    have c01 := L.b0.c31
    have c02 := L.b0.c32
    have c10 := L.tl.b0.c30
    have c11 := L.tl.b0.c31
    have c12 := L.tl.b0.c32
    go_wp2_with fail
    clear c00 c01 c02 c10 c11 c12
    obtain ⟨g2, hg2⟩ : ∃ g9, w6.heap.size = g9 := ⟨_, rfl⟩
    rw [hg2] at L hl9 ⊢
    clear hg2
    have hl_g2 := hl9
    clear hl9
    refine (G7.out _ _ _ (isD_n (m := m) (e := (-(n : Int))) (s := .slice A1 (zl m) c1) (L.getN (by simp))) (isD_n (m := 3) (e := (-2)) (s := .slice A3 (zl 3) c3) (L.getN (by simp)))).mono ?_
    rintro e w7 ⟨rfl, be⟩
    replace L := L.step be
    clear be
    have c10 := L.tl.b0.c30
    have c11 := L.tl.b0.c31
    have c12 := L.tl.b0.c32
    (try go_wp2_with fail)
    refine (G8.out _ _ (isD_n (m := m) (e := (-(n : Int))) (s := .slice A1 (zl m) c1) (L.getN (by simp))) L.below).mono ?_
    rintro e w8 ⟨v9, rfl, iz, be⟩
    clear c10 c11 c12
    obtain ⟨A4, c4, rfl, _, in9⟩ := iz.form
    replace L := (L.step be).n in9
    clear be iz in9
    replace L := L.swap
    have c00 := L.b0.c30
    have f00 := L.b0.fr 0
    have c01 := L.b0.c31
    have f01 := L.b0.fr 1
    have c02 := L.b0.c32
    have f02 := L.b0.fr 2
    have P := L.putD (by omega) (by simp; omega) (ng m) A4 (zl m) c4 e9
    have p0 := P.b0.c30
    have p1 := P.b0.c31
    have p2 := P.b0.c32
    unfold put3 at p0 p1 p2 P
    go_wp2_with fail
    replace L := P
    clear P p0 p1 p2
    clear c00 f00 c01 f01 c02 f02
    have n9 : w.heap.size + 1 ≠ g1 := by omega
    have L9 := L.subx (ns' := [(.slice A4 (zl m) c4, m.natAbs)]) (bs' := [(w.heap.size + 1, 26, #[.bool false, .slice none 0 0, .int .i64 0]), (g1, 26, #[.bool (ng m), .slice A4 (zl m) c4, .int .i64 e9])]) (by simp) (by simp)
    clear L
    have L := L9
    clear L9
    have c00 := L.b0.c30
    have f00 := L.b0.fr 0
    have c01 := L.b0.c31
    have f01 := L.b0.fr 1
    have c02 := L.b0.c32
    have f02 := L.b0.fr 2
    have c10 := L.tl.b0.c30
    have c11 := L.tl.b0.c31
    have c12 := L.tl.b0.c32
    (try go_wp2_with fail)
    go_region
    all_goals (try go_wp2_with fail)
    clear c00 f00 c01 f01 c02 f02 c10 c11 c12
    all_goals
      have LP := (L.putD (by omega) (by first | (simp; done) | (simp; omega)) (ng m) A4 (zl m) c4 e9).drew
      unfold put3 at LP
      have k0 := LP.b0.c30
      have k1 := LP.b0.c31
      have k2 := LP.b0.c32
      exact bodyPost_ret (v := .tuple #[.int .i64 k9, .agg #[.bool (ng m), .slice A4 (zl m) c4, .int .i64 e9], .int .i64 0]) (by simp [results, Tryz.results28, go_sem, k0, k1, k2]) rfl ⟨_, rfl, isD_n (LP.getN (by simp)), LP.below⟩
  · have d9 : decide (cm < 0) = false := decide_eq_false (by omega)
    obtain ⟨r1, r2⟩ := HR.out.2 hcm
    rw [r1, r2]
    clear HR r1 r2
    go_enter Tryz.func28, Tryz.ntmps28
    have L := ((L0.varD (w.heap.size) (by simp) (ng m) A (zl m) c e).varD (w.heap.size + 1) (by simp) false none 0 0 0)
    have c10 := L.tl.b0.c30
    have c11 := L.tl.b0.c31
    have c12 := L.tl.b0.c32
    (try go_wp2_with fail)
    refine (G1.out _ _ (isD_n (m := m) (e := e) (s := .slice A (zl m) c) (L.getN (by simp)))).mono ?_
    rintro e w1 ⟨rfl, be⟩
    clear c10 c11 c12
    replace L := L.step be
    clear be
    have c10 := L.tl.b0.c30
    have c11 := L.tl.b0.c31
    have c12 := L.tl.b0.c32
    (try go_wp2_with fail)
    refine (G2.out _ _ (isD_n (m := m) (e := e) (s := .slice A (zl m) c) (L.getN (by simp)))).mono ?_
    rintro e w2 ⟨rfl, be⟩
    clear c10 c11 c12
    replace L := L.step be
    clear be
    have c10 := L.tl.b0.c30
    have c11 := L.tl.b0.c31
    have c12 := L.tl.b0.c32
    (try go_wp2_with fail)
    refine (G3.out _ _ (isD_n (m := m) (e := e) (s := .slice A (zl m) c) (L.getN (by simp)))).mono ?_
    rintro e w3 ⟨rfl, be⟩
    clear c10 c11 c12
    replace L := L.step be
    clear be
    have c10 := L.tl.b0.c30
    have c11 := L.tl.b0.c31
    have c12 := L.tl.b0.c32
    (try go_wp2_with fail)
    refine (G4.out _ _ ⟨_, rfl, L.getN (by simp)⟩ L.below).mono ?_
    rintro e w4 ⟨v9, rfl, iz, be⟩
    clear c10 c11 c12
    obtain ⟨A1, c1, rfl, _, in9⟩ := iz.form
    replace L := (L.step be).n in9
    clear be iz in9
    have hl9 := L.b0.lt
    replace L := L.varD w4.heap.size rfl (ng m) A1 (zl m) c1 (-(n : Int))
    have c00 := L.b0.c30
    have c01 := L.b0.c31
    have c02 := L.b0.c32
    go_wp2_with fail
    clear c00 c01 c02
    obtain ⟨g1, hg1⟩ : ∃ g9, w4.heap.size = g9 := ⟨_, rfl⟩
    rw [hg1] at L hl9 ⊢
    clear hg1
    have hl_g1 := hl9
    clear hl9
    refine (G5.out _ L.below).mono ?_
    rintro e w5 ⟨v9, rfl, iz, be⟩
    obtain ⟨A2, c2, rfl, _, in9⟩ := iz.form
    replace L := (L.step be).n in9
    clear be iz in9
    (try go_wp2_with fail)
    refine (G6.out _ _ (isD_n (m := 3) (e := 0) (s := .slice A2 (zl 3) c2) (L.getN (by simp))) L.below).mono ?_
    rintro e w6 ⟨v9, rfl, iz, be⟩
    obtain ⟨A3, c3, rfl, _, in9⟩ := iz.form
    replace L := (L.step be).n in9
    clear be iz in9
    have hl9 := L.b0.lt
    replace L := L.varD w6.heap.size rfl (ng 3) A3 (zl 3) c3 (-2)
    have c00 := L.b0.c30
    have c01 := L.b0.c31
    have c02 := L.b0.c32
    have c10 := L.tl.b0.c30
    have c11 := L.tl.b0.c31
    have c12 := L.tl.b0.c32
    go_wp2_with fail
    clear c00 c01 c02 c10 c11 c12
    obtain ⟨g2, hg2⟩ : ∃ g9, w6.heap.size = g9 := ⟨_, rfl⟩
    rw [hg2] at L hl9 ⊢
    clear hg2
    have hl_g2 := hl9
    clear hl9
    refine (G7.out _ _ _ (isD_n (m := m) (e := (-(n : Int))) (s := .slice A1 (zl m) c1) (L.getN (by simp))) (isD_n (m := 3) (e := (-2)) (s := .slice A3 (zl 3) c3) (L.getN (by simp)))).mono ?_
    rintro e w7 ⟨rfl, be⟩
    replace L := L.step be
    clear be
    replace L := L.swap
    have n9 : w.heap.size + 1 ≠ g1 := by omega
    have L9 := L.subx (ns' := [(.slice A1 (zl m) c1, m.natAbs)]) (bs' := [(w.heap.size + 1, 26, #[.bool false, .slice none 0 0, .int .i64 0]), (g1, 26, #[.bool (ng m), .slice A1 (zl m) c1, .int .i64 (-(n : Int))])]) (by simp) (by simp)
    clear L
    have L := L9
    clear L9
    have c00 := L.b0.c30
    have f00 := L.b0.fr 0
    have c01 := L.b0.c31
    have f01 := L.b0.fr 1
    have c02 := L.b0.c32
    have f02 := L.b0.fr 2
    have c10 := L.tl.b0.c30
    have c11 := L.tl.b0.c31
    have c12 := L.tl.b0.c32
    (try go_wp2_with fail)
    go_region
    all_goals (try go_wp2_with fail)
    clear c00 f00 c01 f01 c02 f02 c10 c11 c12
    all_goals
      have LP := (L.putD (by omega) (by first | (simp; done) | (simp; omega)) (ng m) A1 (zl m) c1 (-(n : Int))).drew
      unfold put3 at LP
      have k0 := LP.b0.c30
      have k1 := LP.b0.c31
      have k2 := LP.b0.c32
      exact bodyPost_ret (v := .tuple #[.int .i64 (e + (n : Int)), .agg #[.bool (ng m), .slice A1 (zl m) c1, .int .i64 (-(n : Int))], .int .i64 0]) (by simp [results, Tryz.results28, go_sem, k0, k1, k2]) rfl ⟨_, rfl, isD_n (LP.getN (by simp)), LP.below⟩

/-- What the logarithm of a dyadic returns. -/
def RetLog (w : World) (m e L : Int) (j p : Nat) (en : Ending) (w' : World) : Prop := ∃ S, LogOk m e L p S ∧ AbP S (j + 15) ∧ RetD8 w (mkM S (-(p : Int))) (mkE S (-(p : Int))) en w'

set_option maxHeartbeats 32000000 in
theorem llog_any (m e L : Int) (j p : Nat) (vx vl : Value) (w : World) (hx : IsD w vx m e) (hl : IsD w vl (mkM L (-(p : Int))) (mkE L (-(p : Int)))) (hm : 0 < m) (hv : Dv m e) (lm : zl m ≤ 100) (he : -9000 ≤ e ∧ e ≤ 9000) (hL : AbP L j) (hj1 : p + 3 ≤ j) (hj : j ≤ 5000) (hp32 : 32 ≤ p) (hp : p ≤ 4160) (hT : Tab w) :
    Calls Tryz.prog 40 #[vx, vl, .int .i64 (p : Int)] w (RetLog w m e L j p) := by
  obtain ⟨A, c, rfl, _, hn⟩ := hx.form
  obtain ⟨B, d, rfl, _, hn2⟩ := hl.form
  have L0 := ((Lq.mk0 w).n hn2).n hn
  obtain ⟨rx1, rx2, rk1, rk2⟩ := sp_rng (m := m) (e := e) lm
  obtain ⟨mb1, mb2⟩ := sp_bd hm
  have hvx := dv_at hv hm (x := spE m) (by omega)
  have g1 := fun x W h (hW : Below w.heap.size w W) => lsplit_any m e x W h hm hv (by omega) (by omega) (hT.mono hW)
  obtain ⟨Mi, hMi⟩ : ∃ z, (cutQ (dq m (spE m)) ((p : Int) + 1) + 1) / 2 = z := ⟨_, rfl⟩
  obtain ⟨R, hR⟩ : ∃ z, cutQ (1 / dq (Mi + 2 ^ p) (-(p : Int))) (p : Int) = z := ⟨_, rfl⟩
  obtain ⟨Z, hZ⟩ : ∃ z, cutQ (dq (Mi - 2 ^ p) (-(p : Int)) * dq R (-(p : Int))) (p : Int) = z := ⟨_, rfl⟩
  obtain ⟨Q, hQ⟩ : ∃ z, cutQ (dq Z (-(p : Int)) * dq Z (-(p : Int))) (p : Int) = z := ⟨_, rfl⟩
  have hB := LgN.all ⟨hMi, hR, hZ, hQ⟩ mb1 (Rat.le_of_lt mb2) hp32
  obtain ⟨zs, K, hS, hK, hz1, hz2⟩ := ser_zs hB.q0 hB.q16 (by omega) (by omega)
  have hser := ser_ok hS
  obtain ⟨T, hTd⟩ : ∃ z, seT Q p zs K (K + 1) = z := ⟨_, rfl⟩
  rw [hTd] at hser
  obtain ⟨G, hG⟩ : ∃ z, cutQ (dq Z (-(p : Int)) * dq T (-(p : Int))) (p : Int) = z := ⟨_, rfl⟩
  have aG := hB.gs hser hp32 hG
  obtain ⟨S, hSd⟩ : ∃ z, 2 * G + L * spK m e = z := ⟨_, rfl⟩
  have hok : LogOk m e L p S := lg_ok hm hB hser hp32 hp hG hSd.symm
  have aQ : AbP Q p := abp_of hB.q0 (by have := hB.q16; have := hB.q0; omega)
  have aM := hB.am
  have aA := hB.aA
  have aB := hB.aB
  have aR := hB.aR
  have aZ := hB.aZ
  have aT := hser.sz
  have aK : AbP (spK m e) 14 := by
    have e14 : (2 : Nat) ^ 14 = 16384 := by decide
    unfold AbP
    rw [e14]
    omega
  have aH : AbP (2 * G) (j + 14) := by
    have := (aG.add aG).up (show p + 1 ≤ j + 14 by omega)
    rwa [show G + G = 2 * G by omega] at this
  have aX := hL.mul aK
  have aS := aH.add aX
  rw [hSd] at aS
  have hpc : -4500 ≤ -(p : Int) ∧ -(p : Int) ≤ 0 := by omega
  have hpy : -6000 ≤ -(p : Int) ∧ -(p : Int) ≤ 100 := by omega
  have hpm := permN (p := p) (by omega)
  -- contracts
  have g2 := fun x W h (hW : Below w.heap.size w W) => gnear_any m (spE m) (p : Int) x W h (by omega) (by omega) (by omega) (by omega) (hT.mono hW)
  obtain ⟨y1, y2, y3⟩ := g_yes hpm Mi
  obtain ⟨i1, i2, i3, _, i5⟩ := nxc 100 aM (by omega) hpc (by omega) (by omega)
  rw [hMi, y1, y2, y3, i1] at g2
  have g3 := fun W (hW : Below w.heap.size w W) => dof_any 1 W (by omega) (by omega) (hT.mono hW)
  obtain ⟨o1, o2⟩ := nx_one (p := p) (by omega)
  rw [o1, o2] at g3
  have a2p : AbP (2 ^ p) (p + 1) := (abp_in (by have := pow2_pos p; omega) (Int.le_refl _)).up (by omega)
  obtain ⟨p1, p2, p3, _, _⟩ := nxc 100 a2p (by omega) hpc (by omega) (by omega)
  have g4 := fun x y W h k (hW : Below w.heap.size w W) => dsub_any (mkM Mi (-(p : Int))) (mkE Mi (-(p : Int))) (mkM (2 ^ p) (-(p : Int))) (mkE (2 ^ p) (-(p : Int))) x y W h k (by omega) (by omega) (by omega) (by omega) (hT.mono hW)
  obtain ⟨s1, s2, s3⟩ := nx_sub aM a2p (by omega) hpy
  rw [s1, s2, s3] at g4
  have g5 := fun x y W h k (hW : Below w.heap.size w W) => dadd_any (mkM Mi (-(p : Int))) (mkE Mi (-(p : Int))) (mkM (2 ^ p) (-(p : Int))) (mkE (2 ^ p) (-(p : Int))) x y W h k (by omega) (by omega) (by omega) (by omega) (hT.mono hW)
  obtain ⟨t1, t2, t3⟩ := nx_add aM a2p (by omega) hpy
  rw [t1, t2, t3] at g5
  obtain ⟨A1, A2, A3, A4, A5⟩ := nxc 100 aA (by omega) hpc (by omega) (by omega)
  obtain ⟨B1, B2, B3, B4, B5⟩ := nxc 100 aB (by omega) hpc (by omega) (by omega)
  obtain ⟨R1, R2, R3, R4, R5⟩ := nxc 100 aR (by omega) hpc (by omega) (by omega)
  obtain ⟨Z1, Z2, Z3, Z4, Z5⟩ := nxc 100 aZ (by omega) hpc (by omega) (by omega)
  obtain ⟨Q1, Q2, Q3, Q4, Q5⟩ := nxc 100 aQ (by omega) hpc (by omega) (by omega)
  obtain ⟨T1, T2, T3, T4, T5⟩ := nxc 100 aT (by omega) hpc (by omega) (by omega)
  obtain ⟨C1, C2, C3, C4, C5⟩ := nxc 100 aG (by omega) hpc (by omega) (by omega)
  obtain ⟨H1, H2, H3, H4, H5⟩ := nxc 10000 aH (by omega) hpc (by omega) (by omega)
  obtain ⟨L1, L2, L3, L4, L5⟩ := nxc 10000 hL (by omega) hpc (by omega) (by omega)
  obtain ⟨K1, K2, K3, K4, K5⟩ := nxc 100 (x := 0) aK (by omega) (by omega) (by omega) (by omega)
  obtain ⟨X1, X2, X3, X4, X5⟩ := nxc 10000 aX (by omega) hpc (by omega) (by omega)
  have g6 := fun x W h (hW : Below w.heap.size w W) => lrec_any (mkM (Mi + 2 ^ p) (-(p : Int))) (mkE (Mi + 2 ^ p) (-(p : Int))) R p x W h A4 (by omega) (by omega) (by rw [A5]; exact hB.a1) (by rw [A5]; exact hR) hp (hT.mono hW)
  have g7 := fun x y W h k (hW : Below w.heap.size w W) => lprod_any (mkM (Mi - 2 ^ p) (-(p : Int))) (mkE (Mi - 2 ^ p) (-(p : Int))) (mkM R (-(p : Int))) (mkE R (-(p : Int))) Z p x y W h k (by omega) (by omega) (by omega) (by omega) (by rw [B5, R5]; exact hZ) (aZ.up (by omega)) (by omega) (hT.mono hW)
  have g8 := fun x y W h k (hW : Below w.heap.size w W) => lprod_any (mkM Z (-(p : Int))) (mkE Z (-(p : Int))) (mkM Z (-(p : Int))) (mkE Z (-(p : Int))) Q p x y W h k (by omega) (by omega) (by omega) (by omega) (by rw [Z5]; exact hQ) (aQ.up (by omega)) (by omega) (hT.mono hW)
  have g9 := fun x W h (hW : Below w.heap.size w W) => lser_any Q p x W h zs K hS hK hz1 hz2 (by omega) hp (hT.mono hW)
  rw [hTd] at g9
  have g10 := fun x y W h k (hW : Below w.heap.size w W) => lprod_any (mkM Z (-(p : Int))) (mkE Z (-(p : Int))) (mkM T (-(p : Int))) (mkE T (-(p : Int))) G p x y W h k (by omega) (by omega) (by omega) (by omega) (by rw [Z5, T5]; exact hG) (aG.up (by omega)) (by omega) (hT.mono hW)
  have g11 := fun x W h (hW : Below w.heap.size w W) => dshift_any (mkM G (-(p : Int))) (mkE G (-(p : Int))) 1 x W h (by omega) (by omega) (by omega) (hT.mono hW)
  obtain ⟨d1, d2, d3⟩ := nx_dbl aG (by omega) hpy
  rw [d1, d2, d3] at g11
  have g12 := fun W (hW : Below w.heap.size w W) => dof_any (spK m e) W (by omega) (by omega) (hT.mono hW)
  have g13 := fun x y W h k (hW : Below w.heap.size w W) => dmul_any (mkM L (-(p : Int))) (mkE L (-(p : Int))) (mkM (spK m e) 0) (mkE (spK m e) 0) x y W h k (by omega) (by omega) (by omega) (by omega) (hT.mono hW)
  obtain ⟨v1, v2, v3⟩ := nx_mulk hL aK (by omega) (by omega) hpy
  rw [v1, v2, v3] at g13
  have g14 := fun x y W h k (hW : Below w.heap.size w W) => dadd_any (mkM (2 * G) (-(p : Int))) (mkE (2 * G) (-(p : Int))) (mkM (L * spK m e) (-(p : Int))) (mkE (L * spK m e) (-(p : Int))) x y W h k (by omega) (by omega) (by omega) (by omega) (hT.mono hW)
  obtain ⟨x1, x2, x3⟩ := nx_add aH aX (by omega) hpy
  rw [x1, x2, x3, hSd] at g14
  clear hpc y1 y2 y3 i1 i2 i3 i5 o1 o2 p1 p2 p3 s1 s2 s3 t1 t2 t3 d1 d2 d3 v1 v2 v3 x1 x2 x3 A1 A2 A3 A4 A5 B1 B2 B3 B4 B5 R1 R2 R3 R4 R5 Z1 Z2 Z3 Z4 Z5 Q1 Q2 Q3 Q4 Q5 T1 T2 T3 T4 T5 C1 C2 C3 C4 C5 H1 H2 H3 H4 H5 L1 L2 L3 L4 L5 K1 K2 K3 K4 K5 X1 X2 X3 X4 X5 a2p hpm hpy aM aA aB aR aZ aT aK aH aX aQ aG hS hK hz1 hz2 hser hB hTd hSd hG hMi hR hZ hQ hvx mb1 mb2 rx1 rx2 rk1 rk2 hx hl hm hv lm he hL hj1 hj hp32 hp hT
  have HOK := Lib.hid (And.intro hok aS)
  clear hok aS
  generalize spK m e = kk at *
  generalize spE m = xx at *
  obtain ⟨MS, hMS⟩ : ∃ z, mkM S (-(p : Int)) = z := ⟨_, rfl⟩
  rw [hMS] at g14
  obtain ⟨ES, hES⟩ : ∃ z, mkE S (-(p : Int)) = z := ⟨_, rfl⟩
  rw [hES] at g14
  have HSS := Lib.hid (And.intro hMS hES)
  clear hMS hES
  generalize mkM (2 * G) (-(p : Int)) = MH at *
  generalize mkE (2 * G) (-(p : Int)) = EH at *
  generalize mkM (L * kk) (-(p : Int)) = MX at *
  generalize mkE (L * kk) (-(p : Int)) = EX at *
  generalize mkM (Mi + 2 ^ p) (-(p : Int)) = MA at *
  generalize mkE (Mi + 2 ^ p) (-(p : Int)) = EA at *
  generalize mkM (Mi - 2 ^ p) (-(p : Int)) = MB at *
  generalize mkE (Mi - 2 ^ p) (-(p : Int)) = EB at *
  generalize mkM (2 ^ p) (-(p : Int)) = M1 at *
  generalize mkE (2 ^ p) (-(p : Int)) = E1 at *
  generalize mkM G (-(p : Int)) = MG at *
  generalize mkE G (-(p : Int)) = EG at *
  generalize mkM T (-(p : Int)) = MT at *
  generalize mkE T (-(p : Int)) = ET at *
  generalize mkM Q (-(p : Int)) = MQ at *
  generalize mkE Q (-(p : Int)) = EQ at *
  generalize mkM Z (-(p : Int)) = MZ at *
  generalize mkE Z (-(p : Int)) = EZ at *
  generalize mkM R (-(p : Int)) = MR at *
  generalize mkE R (-(p : Int)) = ER at *
  generalize mkM Mi (-(p : Int)) = M2 at *
  generalize mkE Mi (-(p : Int)) = E2 at *
  generalize mkM L (-(p : Int)) = ML at *
  generalize mkE L (-(p : Int)) = EL at *
  generalize mkM kk 0 = MK at *
  generalize mkE kk 0 = EK at *
  have G1 := Lib.hid g1
  have G2 := Lib.hid g2
  have G3 := Lib.hid g3
  have G4 := Lib.hid g4
  have G5 := Lib.hid g5
  have G6 := Lib.hid g6
  have G7 := Lib.hid g7
  have G8 := Lib.hid g8
  have G9 := Lib.hid g9
  have G10 := Lib.hid g10
  have G11 := Lib.hid g11
  have G12 := Lib.hid g12
  have G13 := Lib.hid g13
  have G14 := Lib.hid g14
  clear g1 g2 g3 g4 g5 g6 g7 g8 g9 g10 g11 g12 g13 g14
  go_enter Tryz.func40, Tryz.ntmps40
  have L := (((L0.varD (w.heap.size) (by simp) (ng m) A (zl m) c e).varD (w.heap.size + 1) (by simp) (ng ML) B (zl ML) d EL).varD (w.heap.size + 2) (by simp) false none 0 0 0)
  have c20 := L.tl.tl.b0.c30
  have c21 := L.tl.tl.b0.c31
  have c22 := L.tl.tl.b0.c32
  (try go_wp2_with fail)
  refine (G1.out _ _ (isD_n (m := m) (e := e) (s := .slice A (zl m) c) (L.getN (by simp))) L.below).mono ?_
  rintro e w1 ⟨v9, rfl, iz, be⟩
  clear c20 c21 c22
  obtain ⟨A1, c1, rfl, _, in9⟩ := iz.form
  replace L := (L.step be).n in9
  clear be iz in9
  have hl9 := L.b0.lt
  replace L := L.varD w1.heap.size rfl (ng m) A1 (zl m) c1 xx
  have c00 := L.b0.c30
  have c01 := L.b0.c31
  have c02 := L.b0.c32
  go_wp2_with fail
  clear c00 c01 c02
  obtain ⟨g1, hg1⟩ : ∃ g9, w1.heap.size = g9 := ⟨_, rfl⟩
  rw [hg1] at L hl9 ⊢
  clear hg1
  have hl_g1 := hl9
  clear hl9
  refine (G2.out _ _ (isD_n (m := m) (e := xx) (s := .slice A1 (zl m) c1) (L.getN (by simp))) L.below).mono ?_
  rintro e w2 ⟨v9, rfl, iz, be⟩
  obtain ⟨A2, c2, rfl, _, in9⟩ := iz.form
  replace L := (L.step be).n in9
  clear be iz in9
  have c00 := L.b0.c30
  have f00 := L.b0.fr 0
  have c01 := L.b0.c31
  have f01 := L.b0.fr 1
  have c02 := L.b0.c32
  have f02 := L.b0.fr 2
  have P := L.putD (by omega) (by simp; omega) (ng M2) A2 (zl M2) c2 E2
  unfold put3 at P
  go_wp2_with fail
  replace L := P
  clear P
  clear c00 f00 c01 f01 c02 f02
  (try go_wp2_with fail)
  obtain ⟨V, hV, L9⟩ := L.name
  rw [hV]
  clear hV L
  have L := L9
  clear L9
  have Q0 := Lib.hid (fun Z (hZ : Below V.heap.size V Z) => (L.b0.mono hZ).c30)
  have Q1 := Lib.hid (fun Z (hZ : Below V.heap.size V Z) => (L.b0.mono hZ).c31)
  have Q2 := Lib.hid (fun Z (hZ : Below V.heap.size V Z) => (L.b0.mono hZ).c32)
  have hb0 := L.b0.lt
  have D0 : Dq V V [(.slice A2 (zl M2) c2, (M2 : Int).natAbs)] [] [] [] := ⟨((Lq.mk0 V).n (L.getN (v := .slice A2 (zl M2) c2) (x := (M2 : Int).natAbs) (by simp))), List.nodup_nil, fun p hp => by cases hp⟩
  have D := D0.drew
  have hVw := L.below.size
  have HVW := Lib.hid (fun Z (hZ : Below V.heap.size V Z) => L.below.trans (hZ.mono hVw))
  have LL := Lib.hid L
  clear L
  obtain ⟨K, hK⟩ : ∃ K, V.heap.size = K := ⟨_, rfl⟩
  have hz0 : K ≤ V.heap.size := by omega
  have hmd : V.drew.heap.size = K := hK
  have hc0 : g1 < K := by omega
  go_cut [10, 11] from 34 to 40 (fun s0 s1 wx => s1 = .int .i64 0 ∧ Made1D V MB EB s0 wx)
  case first =>
    go_region_held3 (fun w' => w'.cell? ⟨g1, 0, none⟩ = some (.bool (ng M2)) ∧ w'.cell? ⟨g1, 1, none⟩ = some (.slice A2 (zl M2) c2) ∧ w'.cell? ⟨g1, 2, none⟩ = some (.int .i64 E2)) (((try dsimp only); refine ⟨?_, ?_, ?_⟩ <;> (repeat (first | (with_reducible exact Q0.out _ D.lq.below) | (with_reducible exact Q0.out _ D0.lq.below) | (with_reducible exact Q1.out _ D.lq.below) | (with_reducible exact Q1.out _ D0.lq.below) | (with_reducible exact Q2.out _ D.lq.below) | (with_reducible exact Q2.out _ D0.lq.below) | (with_reducible refine c_alloc _ ?_) | (with_reducible refine c_drew ?_) | (with_reducible refine c_set ?_ (by assumption) ?_) | omega)))) (first | (go_at_call 64; (with_reducible refine (G3.out _ ?_).mono ?_); (· (first | (with_reducible exact HVW.out _ D.lq.below) | (with_reducible exact HVW.out _ (D.boxD false none 0 0 0).lq.below) | (with_reducible exact HVW.out _ (D0.boxD false none 0 0 0).drew.lq.below))); rintro e9 wh ⟨vh, rfl, id, be⟩; obtain ⟨A3, c3, rfl, _, in9⟩ := id.form; (first | (replace D := D.step be) | (replace D := (D.boxMD hmd false none 0 0 0).step be) | (replace D := (D.boxD false none 0 0 0).step be)); have hz := be.size; (try simp at hz); replace D := D.n in9; (try (have x00 := D.lq.b0.c30; have y00 := D.lq.b0.fr 0; have x01 := D.lq.b0.c31; have y01 := D.lq.b0.fr 1; have x02 := D.lq.b0.c32; have y02 := D.lq.b0.fr 2)); (try obtain ⟨na, nb, nc, nd, nl⟩ := D.n0)) | (go_at_call 43; (with_reducible refine (G4.out _ _ _ ?_ ?_ ?_).mono ?_); (· (first | (with_reducible refine isD_n (D.getN ?_); (repeat (first | (with_reducible exact List.mem_cons_self) | apply List.mem_cons_of_mem))) | (with_reducible refine isD_n ((D.boxD false none 0 0 0).getN ?_); (repeat (first | (with_reducible exact List.mem_cons_self) | apply List.mem_cons_of_mem))) | (with_reducible refine isD_n ((D0.boxD false none 0 0 0).drew.getN ?_); (repeat (first | (with_reducible exact List.mem_cons_self) | apply List.mem_cons_of_mem))))); (· (first | (with_reducible refine isD_n (D.getN ?_); (repeat (first | (with_reducible exact List.mem_cons_self) | apply List.mem_cons_of_mem))) | (with_reducible refine isD_n ((D.boxD false none 0 0 0).getN ?_); (repeat (first | (with_reducible exact List.mem_cons_self) | apply List.mem_cons_of_mem))) | (with_reducible refine isD_n ((D0.boxD false none 0 0 0).drew.getN ?_); (repeat (first | (with_reducible exact List.mem_cons_self) | apply List.mem_cons_of_mem))))); (· (first | (with_reducible exact HVW.out _ D.lq.below) | (with_reducible exact HVW.out _ (D.boxD false none 0 0 0).lq.below) | (with_reducible exact HVW.out _ (D0.boxD false none 0 0 0).drew.lq.below))); rintro e9 wh ⟨vh, rfl, id, be⟩; obtain ⟨A4, c4, rfl, _, in9⟩ := id.form; (first | (replace D := D.step be) | (replace D := (D.boxMD hmd false none 0 0 0).step be) | (replace D := (D.boxD false none 0 0 0).step be)); have hz := be.size; (try simp at hz); replace D := D.n in9; (try (have x00 := D.lq.b0.c30; have y00 := D.lq.b0.fr 0; have x01 := D.lq.b0.c31; have y01 := D.lq.b0.fr 1; have x02 := D.lq.b0.c32; have y02 := D.lq.b0.fr 2)); (try obtain ⟨na, nb, nc, nd, nl⟩ := D.n0)))
    all_goals
      go_wp2_with fail
      go_meet
      refine ⟨rfl, ?_⟩
      first
      | ((with_reducible refine made1d_a D ?_) <;> (repeat (first | (with_reducible exact List.mem_cons_self) | apply List.mem_cons_of_mem)))
      | ((with_reducible refine made1d_b D ?_) <;> (repeat (first | (with_reducible exact List.mem_cons_self) | apply List.mem_cons_of_mem)))
  case rest =>
    obtain ⟨rfl, g2, A5, c5, rfl, hg9, bw, hb9, q1⟩ := hcut
    have L := ((LL.out.step bw).n q1).b hb9
    have hl_g2 := hg9
    clear D D0 hmd LL hb9 q1 bw hg9 HVW Q0 Q1 Q2 hc0
    generalize wc = wd2 at *
    (try go_wp2_with fail)
    obtain ⟨V, hV, L9⟩ := L.name
    rw [hV]
    clear hV L
    have L := L9
    clear L9
    have Q0 := Lib.hid (fun Z (hZ : Below V.heap.size V Z) => (L.tl.b0.mono hZ).c30)
    have Q1 := Lib.hid (fun Z (hZ : Below V.heap.size V Z) => (L.tl.b0.mono hZ).c31)
    have Q2 := Lib.hid (fun Z (hZ : Below V.heap.size V Z) => (L.tl.b0.mono hZ).c32)
    have hb0 := L.tl.b0.lt
    have D0 : Dq V V [(.slice A2 (zl M2) c2, (M2 : Int).natAbs)] [] [] [] := ⟨((Lq.mk0 V).n (L.getN (v := .slice A2 (zl M2) c2) (x := (M2 : Int).natAbs) (by simp))), List.nodup_nil, fun p hp => by cases hp⟩
    have D := D0.drew
    have hVw := L.below.size
    have HVW := Lib.hid (fun Z (hZ : Below V.heap.size V Z) => L.below.trans (hZ.mono hVw))
    have LL := Lib.hid L
    clear L
    obtain ⟨K, hK⟩ : ∃ K, V.heap.size = K := ⟨_, rfl⟩
    have hz0 : K ≤ V.heap.size := by omega
    have hmd : V.drew.heap.size = K := hK
    have hc0 : g1 < K := by omega
    go_cut [12, 13] from 40 to 46 (fun s0 s1 wx => s1 = .int .i64 0 ∧ Made1D V MA EA s0 wx)
    case first =>
      go_region_held3 (fun w' => w'.cell? ⟨g1, 0, none⟩ = some (.bool (ng M2)) ∧ w'.cell? ⟨g1, 1, none⟩ = some (.slice A2 (zl M2) c2) ∧ w'.cell? ⟨g1, 2, none⟩ = some (.int .i64 E2)) (((try dsimp only); refine ⟨?_, ?_, ?_⟩ <;> (repeat (first | (with_reducible exact Q0.out _ D.lq.below) | (with_reducible exact Q0.out _ D0.lq.below) | (with_reducible exact Q1.out _ D.lq.below) | (with_reducible exact Q1.out _ D0.lq.below) | (with_reducible exact Q2.out _ D.lq.below) | (with_reducible exact Q2.out _ D0.lq.below) | (with_reducible refine c_alloc _ ?_) | (with_reducible refine c_drew ?_) | (with_reducible refine c_set ?_ (by assumption) ?_) | omega)))) (first | (go_at_call 64; (with_reducible refine (G3.out _ ?_).mono ?_); (· (first | (with_reducible exact HVW.out _ D.lq.below) | (with_reducible exact HVW.out _ (D.boxD false none 0 0 0).lq.below) | (with_reducible exact HVW.out _ (D0.boxD false none 0 0 0).drew.lq.below))); rintro e9 wh ⟨vh, rfl, id, be⟩; obtain ⟨A3, c3, rfl, _, in9⟩ := id.form; (first | (replace D := D.step be) | (replace D := (D.boxMD hmd false none 0 0 0).step be) | (replace D := (D.boxD false none 0 0 0).step be)); have hz := be.size; (try simp at hz); replace D := D.n in9; (try (have x00 := D.lq.b0.c30; have y00 := D.lq.b0.fr 0; have x01 := D.lq.b0.c31; have y01 := D.lq.b0.fr 1; have x02 := D.lq.b0.c32; have y02 := D.lq.b0.fr 2)); (try obtain ⟨na, nb, nc, nd, nl⟩ := D.n0)) | (go_at_call 44; (with_reducible refine (G5.out _ _ _ ?_ ?_ ?_).mono ?_); (· (first | (with_reducible refine isD_n (D.getN ?_); (repeat (first | (with_reducible exact List.mem_cons_self) | apply List.mem_cons_of_mem))) | (with_reducible refine isD_n ((D.boxD false none 0 0 0).getN ?_); (repeat (first | (with_reducible exact List.mem_cons_self) | apply List.mem_cons_of_mem))) | (with_reducible refine isD_n ((D0.boxD false none 0 0 0).drew.getN ?_); (repeat (first | (with_reducible exact List.mem_cons_self) | apply List.mem_cons_of_mem))))); (· (first | (with_reducible refine isD_n (D.getN ?_); (repeat (first | (with_reducible exact List.mem_cons_self) | apply List.mem_cons_of_mem))) | (with_reducible refine isD_n ((D.boxD false none 0 0 0).getN ?_); (repeat (first | (with_reducible exact List.mem_cons_self) | apply List.mem_cons_of_mem))) | (with_reducible refine isD_n ((D0.boxD false none 0 0 0).drew.getN ?_); (repeat (first | (with_reducible exact List.mem_cons_self) | apply List.mem_cons_of_mem))))); (· (first | (with_reducible exact HVW.out _ D.lq.below) | (with_reducible exact HVW.out _ (D.boxD false none 0 0 0).lq.below) | (with_reducible exact HVW.out _ (D0.boxD false none 0 0 0).drew.lq.below))); rintro e9 wh ⟨vh, rfl, id, be⟩; obtain ⟨A4, c4, rfl, _, in9⟩ := id.form; (first | (replace D := D.step be) | (replace D := (D.boxMD hmd false none 0 0 0).step be) | (replace D := (D.boxD false none 0 0 0).step be)); have hz := be.size; (try simp at hz); replace D := D.n in9; (try (have x00 := D.lq.b0.c30; have y00 := D.lq.b0.fr 0; have x01 := D.lq.b0.c31; have y01 := D.lq.b0.fr 1; have x02 := D.lq.b0.c32; have y02 := D.lq.b0.fr 2)); (try obtain ⟨na, nb, nc, nd, nl⟩ := D.n0)))
      all_goals
        go_wp2_with fail
        go_meet
        refine ⟨rfl, ?_⟩
        first
        | ((with_reducible refine made1d_a D ?_) <;> (repeat (first | (with_reducible exact List.mem_cons_self) | apply List.mem_cons_of_mem)))
        | ((with_reducible refine made1d_b D ?_) <;> (repeat (first | (with_reducible exact List.mem_cons_self) | apply List.mem_cons_of_mem)))
    case rest =>
      obtain ⟨rfl, g3, A6, c6, rfl, hg9, bw, hb9, q1⟩ := hcut
      have L := ((LL.out.step bw).n q1).b hb9
      have hl_g3 := hg9
      clear D D0 hmd LL hb9 q1 bw hg9 HVW Q0 Q1 Q2 hc0
      generalize wc = wd3 at *
      (try go_wp2_with fail)
      obtain ⟨V, hV, L9⟩ := L.name
      rw [hV]
      clear hV L
      have L := L9
      clear L9
      have Q0 := Lib.hid (fun Z (hZ : Below V.heap.size V Z) => (L.b0.mono hZ).c30)
      have Q1 := Lib.hid (fun Z (hZ : Below V.heap.size V Z) => (L.b0.mono hZ).c31)
      have Q2 := Lib.hid (fun Z (hZ : Below V.heap.size V Z) => (L.b0.mono hZ).c32)
      have Q3 := Lib.hid (fun Z (hZ : Below V.heap.size V Z) => (L.tl.b0.mono hZ).c30)
      have Q4 := Lib.hid (fun Z (hZ : Below V.heap.size V Z) => (L.tl.b0.mono hZ).c31)
      have Q5 := Lib.hid (fun Z (hZ : Below V.heap.size V Z) => (L.tl.b0.mono hZ).c32)
      have hb0 := L.b0.lt
      have hb1 := L.tl.b0.lt
      have D0 : Dq V V [(.slice A6 (zl MA) c6, (MA : Int).natAbs), (.slice A5 (zl MB) c5, (MB : Int).natAbs)] [] [] [] := ⟨(((Lq.mk0 V).n (L.getN (v := .slice A5 (zl MB) c5) (x := (MB : Int).natAbs) (by simp))).n (L.getN (v := .slice A6 (zl MA) c6) (x := (MA : Int).natAbs) (by simp))), List.nodup_nil, fun p hp => by cases hp⟩
      have D := D0.drew
      have hVw := L.below.size
      have HVW := Lib.hid (fun Z (hZ : Below V.heap.size V Z) => L.below.trans (hZ.mono hVw))
      have LL := Lib.hid L
      clear L
      obtain ⟨K, hK⟩ : ∃ K, V.heap.size = K := ⟨_, rfl⟩
      have hz0 : K ≤ V.heap.size := by omega
      have hmd : V.drew.heap.size = K := hK
      have hc0 : g3 < K := by omega
      have hc1 : g2 < K := by omega
      go_cut [14] from 46 to 52 (fun s0 wx => Made1D V MZ EZ s0 wx)
      case first =>
        go_region_held3 (fun w' => w'.cell? ⟨g3, 0, none⟩ = some (.bool (ng MA)) ∧ w'.cell? ⟨g3, 1, none⟩ = some (.slice A6 (zl MA) c6) ∧ w'.cell? ⟨g3, 2, none⟩ = some (.int .i64 EA) ∧ w'.cell? ⟨g2, 0, none⟩ = some (.bool (ng MB)) ∧ w'.cell? ⟨g2, 1, none⟩ = some (.slice A5 (zl MB) c5) ∧ w'.cell? ⟨g2, 2, none⟩ = some (.int .i64 EB)) (((try dsimp only); refine ⟨?_, ?_, ?_, ?_, ?_, ?_⟩ <;> (repeat (first | (with_reducible exact Q0.out _ D.lq.below) | (with_reducible exact Q0.out _ D0.lq.below) | (with_reducible exact Q1.out _ D.lq.below) | (with_reducible exact Q1.out _ D0.lq.below) | (with_reducible exact Q2.out _ D.lq.below) | (with_reducible exact Q2.out _ D0.lq.below) | (with_reducible exact Q3.out _ D.lq.below) | (with_reducible exact Q3.out _ D0.lq.below) | (with_reducible exact Q4.out _ D.lq.below) | (with_reducible exact Q4.out _ D0.lq.below) | (with_reducible exact Q5.out _ D.lq.below) | (with_reducible exact Q5.out _ D0.lq.below) | (with_reducible refine c_alloc _ ?_) | (with_reducible refine c_drew ?_) | (with_reducible refine c_set ?_ (by assumption) ?_) | omega)))) (first | (go_at_call 94; (with_reducible refine (G6.out _ _ ?_ ?_).mono ?_); (· (first | (with_reducible refine isD_n (D.getN ?_); (repeat (first | (with_reducible exact List.mem_cons_self) | apply List.mem_cons_of_mem))) | (with_reducible refine isD_n ((D.boxD false none 0 0 0).getN ?_); (repeat (first | (with_reducible exact List.mem_cons_self) | apply List.mem_cons_of_mem))) | (with_reducible refine isD_n ((D0.boxD false none 0 0 0).drew.getN ?_); (repeat (first | (with_reducible exact List.mem_cons_self) | apply List.mem_cons_of_mem))))); (· (first | (with_reducible exact HVW.out _ D.lq.below) | (with_reducible exact HVW.out _ (D.boxD false none 0 0 0).lq.below) | (with_reducible exact HVW.out _ (D0.boxD false none 0 0 0).drew.lq.below))); rintro e9 wh ⟨vh, rfl, id, be⟩; obtain ⟨A3, c3, rfl, _, in9⟩ := id.form; (first | (replace D := D.step be) | (replace D := (D.boxMD hmd false none 0 0 0).step be) | (replace D := (D.boxD false none 0 0 0).step be)); have hz := be.size; (try simp at hz); replace D := D.n in9; (try (have x00 := D.lq.b0.c30; have y00 := D.lq.b0.fr 0; have x01 := D.lq.b0.c31; have y01 := D.lq.b0.fr 1; have x02 := D.lq.b0.c32; have y02 := D.lq.b0.fr 2)); (try obtain ⟨na, nb, nc, nd, nl⟩ := D.n0)) | (go_at_call 93; (with_reducible refine (G7.out _ _ _ ?_ ?_ ?_).mono ?_); (· (first | (with_reducible refine isD_n (D.getN ?_); (repeat (first | (with_reducible exact List.mem_cons_self) | apply List.mem_cons_of_mem))) | (with_reducible refine isD_n ((D.boxD false none 0 0 0).getN ?_); (repeat (first | (with_reducible exact List.mem_cons_self) | apply List.mem_cons_of_mem))) | (with_reducible refine isD_n ((D0.boxD false none 0 0 0).drew.getN ?_); (repeat (first | (with_reducible exact List.mem_cons_self) | apply List.mem_cons_of_mem))))); (· (first | (with_reducible refine isD_n (D.getN ?_); (repeat (first | (with_reducible exact List.mem_cons_self) | apply List.mem_cons_of_mem))) | (with_reducible refine isD_n ((D.boxD false none 0 0 0).getN ?_); (repeat (first | (with_reducible exact List.mem_cons_self) | apply List.mem_cons_of_mem))) | (with_reducible refine isD_n ((D0.boxD false none 0 0 0).drew.getN ?_); (repeat (first | (with_reducible exact List.mem_cons_self) | apply List.mem_cons_of_mem))))); (· (first | (with_reducible exact HVW.out _ D.lq.below) | (with_reducible exact HVW.out _ (D.boxD false none 0 0 0).lq.below) | (with_reducible exact HVW.out _ (D0.boxD false none 0 0 0).drew.lq.below))); rintro e9 wh ⟨vh, rfl, id, be⟩; obtain ⟨A4, c4, rfl, _, in9⟩ := id.form; (first | (replace D := D.step be) | (replace D := (D.boxMD hmd false none 0 0 0).step be) | (replace D := (D.boxD false none 0 0 0).step be)); have hz := be.size; (try simp at hz); replace D := D.n in9; (try (have x00 := D.lq.b0.c30; have y00 := D.lq.b0.fr 0; have x01 := D.lq.b0.c31; have y01 := D.lq.b0.fr 1; have x02 := D.lq.b0.c32; have y02 := D.lq.b0.fr 2)); (try obtain ⟨na, nb, nc, nd, nl⟩ := D.n0)))
        all_goals
          go_wp2_with fail
          go_meet
          first
          | ((with_reducible refine made1d_a D ?_) <;> (repeat (first | (with_reducible exact List.mem_cons_self) | apply List.mem_cons_of_mem)))
          | ((with_reducible refine made1d_b D ?_) <;> (repeat (first | (with_reducible exact List.mem_cons_self) | apply List.mem_cons_of_mem)))
      case rest =>
        obtain ⟨g4, A7, c7, rfl, hg9, bw, hb9, q1⟩ := hcut
        have L := ((LL.out.step bw).n q1).b hb9
        have hl_g4 := hg9
        clear D D0 hmd LL hb9 q1 bw hg9 HVW Q0 Q1 Q2 Q3 Q4 Q5 hc0 hc1
        generalize wc = wd4 at *
        (try go_wp2_with fail)
        obtain ⟨V, hV, L9⟩ := L.name
        rw [hV]
        clear hV L
        have L := L9
        clear L9
        have Q0 := Lib.hid (fun Z (hZ : Below V.heap.size V Z) => (L.b0.mono hZ).c30)
        have Q1 := Lib.hid (fun Z (hZ : Below V.heap.size V Z) => (L.b0.mono hZ).c31)
        have Q2 := Lib.hid (fun Z (hZ : Below V.heap.size V Z) => (L.b0.mono hZ).c32)
        have hb0 := L.b0.lt
        have D0 : Dq V V [(.slice A7 (zl MZ) c7, (MZ : Int).natAbs)] [] [] [] := ⟨((Lq.mk0 V).n (L.getN (v := .slice A7 (zl MZ) c7) (x := (MZ : Int).natAbs) (by simp))), List.nodup_nil, fun p hp => by cases hp⟩
        have D := D0.drew
        have hVw := L.below.size
        have HVW := Lib.hid (fun Z (hZ : Below V.heap.size V Z) => L.below.trans (hZ.mono hVw))
        have LL := Lib.hid L
        clear L
        obtain ⟨K, hK⟩ : ∃ K, V.heap.size = K := ⟨_, rfl⟩
        have hz0 : K ≤ V.heap.size := by omega
        have hmd : V.drew.heap.size = K := hK
        have hc0 : g4 < K := by omega
        go_cut [15] from 52 to 61 (fun s0 wx => Made1D V MG EG s0 wx)
        case first =>
          go_region_held3 (fun w' => w'.cell? ⟨g4, 0, none⟩ = some (.bool (ng MZ)) ∧ w'.cell? ⟨g4, 1, none⟩ = some (.slice A7 (zl MZ) c7) ∧ w'.cell? ⟨g4, 2, none⟩ = some (.int .i64 EZ)) (((try dsimp only); refine ⟨?_, ?_, ?_⟩ <;> (repeat (first | (with_reducible exact Q0.out _ D.lq.below) | (with_reducible exact Q0.out _ D0.lq.below) | (with_reducible exact Q1.out _ D.lq.below) | (with_reducible exact Q1.out _ D0.lq.below) | (with_reducible exact Q2.out _ D.lq.below) | (with_reducible exact Q2.out _ D0.lq.below) | (with_reducible refine c_alloc _ ?_) | (with_reducible refine c_drew ?_) | (with_reducible refine c_set ?_ (by assumption) ?_) | omega)))) (first | (go_at_call 93; (with_reducible refine (G8.out _ _ _ ?_ ?_ ?_).mono ?_); (· (first | (with_reducible refine isD_n (D.getN ?_); (repeat (first | (with_reducible exact List.mem_cons_self) | apply List.mem_cons_of_mem))) | (with_reducible refine isD_n ((D.boxD false none 0 0 0).getN ?_); (repeat (first | (with_reducible exact List.mem_cons_self) | apply List.mem_cons_of_mem))) | (with_reducible refine isD_n ((D0.boxD false none 0 0 0).drew.getN ?_); (repeat (first | (with_reducible exact List.mem_cons_self) | apply List.mem_cons_of_mem))))); (· (first | (with_reducible refine isD_n (D.getN ?_); (repeat (first | (with_reducible exact List.mem_cons_self) | apply List.mem_cons_of_mem))) | (with_reducible refine isD_n ((D.boxD false none 0 0 0).getN ?_); (repeat (first | (with_reducible exact List.mem_cons_self) | apply List.mem_cons_of_mem))) | (with_reducible refine isD_n ((D0.boxD false none 0 0 0).drew.getN ?_); (repeat (first | (with_reducible exact List.mem_cons_self) | apply List.mem_cons_of_mem))))); (· (first | (with_reducible exact HVW.out _ D.lq.below) | (with_reducible exact HVW.out _ (D.boxD false none 0 0 0).lq.below) | (with_reducible exact HVW.out _ (D0.boxD false none 0 0 0).drew.lq.below))); rintro e9 wh ⟨vh, rfl, id, be⟩; obtain ⟨A3, c3, rfl, _, in9⟩ := id.form; (first | (replace D := D.step be) | (replace D := (D.boxMD hmd false none 0 0 0).step be) | (replace D := (D.boxD false none 0 0 0).step be)); have hz := be.size; (try simp at hz); replace D := D.n in9; (try (have x00 := D.lq.b0.c30; have y00 := D.lq.b0.fr 0; have x01 := D.lq.b0.c31; have y01 := D.lq.b0.fr 1; have x02 := D.lq.b0.c32; have y02 := D.lq.b0.fr 2)); (try obtain ⟨na, nb, nc, nd, nl⟩ := D.n0)) | (go_at_call 95; (with_reducible refine (G9.out _ _ ?_ ?_).mono ?_); (· (first | (with_reducible refine isD_n (D.getN ?_); (repeat (first | (with_reducible exact List.mem_cons_self) | apply List.mem_cons_of_mem))) | (with_reducible refine isD_n ((D.boxD false none 0 0 0).getN ?_); (repeat (first | (with_reducible exact List.mem_cons_self) | apply List.mem_cons_of_mem))) | (with_reducible refine isD_n ((D0.boxD false none 0 0 0).drew.getN ?_); (repeat (first | (with_reducible exact List.mem_cons_self) | apply List.mem_cons_of_mem))))); (· (first | (with_reducible exact HVW.out _ D.lq.below) | (with_reducible exact HVW.out _ (D.boxD false none 0 0 0).lq.below) | (with_reducible exact HVW.out _ (D0.boxD false none 0 0 0).drew.lq.below))); rintro e9 wh ⟨vh, rfl, id, be⟩; obtain ⟨A4, c4, rfl, _, in9⟩ := id.form; (first | (replace D := D.step be) | (replace D := (D.boxMD hmd false none 0 0 0).step be) | (replace D := (D.boxD false none 0 0 0).step be)); have hz := be.size; (try simp at hz); replace D := D.n in9; (try (have x00 := D.lq.b0.c30; have y00 := D.lq.b0.fr 0; have x01 := D.lq.b0.c31; have y01 := D.lq.b0.fr 1; have x02 := D.lq.b0.c32; have y02 := D.lq.b0.fr 2)); (try obtain ⟨na, nb, nc, nd, nl⟩ := D.n0)) | (go_at_call 93; (with_reducible refine (G10.out _ _ _ ?_ ?_ ?_).mono ?_); (· (first | (with_reducible refine isD_n (D.getN ?_); (repeat (first | (with_reducible exact List.mem_cons_self) | apply List.mem_cons_of_mem))) | (with_reducible refine isD_n ((D.boxD false none 0 0 0).getN ?_); (repeat (first | (with_reducible exact List.mem_cons_self) | apply List.mem_cons_of_mem))) | (with_reducible refine isD_n ((D0.boxD false none 0 0 0).drew.getN ?_); (repeat (first | (with_reducible exact List.mem_cons_self) | apply List.mem_cons_of_mem))))); (· (first | (with_reducible refine isD_n (D.getN ?_); (repeat (first | (with_reducible exact List.mem_cons_self) | apply List.mem_cons_of_mem))) | (with_reducible refine isD_n ((D.boxD false none 0 0 0).getN ?_); (repeat (first | (with_reducible exact List.mem_cons_self) | apply List.mem_cons_of_mem))) | (with_reducible refine isD_n ((D0.boxD false none 0 0 0).drew.getN ?_); (repeat (first | (with_reducible exact List.mem_cons_self) | apply List.mem_cons_of_mem))))); (· (first | (with_reducible exact HVW.out _ D.lq.below) | (with_reducible exact HVW.out _ (D.boxD false none 0 0 0).lq.below) | (with_reducible exact HVW.out _ (D0.boxD false none 0 0 0).drew.lq.below))); rintro e9 wh ⟨vh, rfl, id, be⟩; obtain ⟨A8, c8, rfl, _, in9⟩ := id.form; (first | (replace D := D.step be) | (replace D := (D.boxMD hmd false none 0 0 0).step be) | (replace D := (D.boxD false none 0 0 0).step be)); have hz := be.size; (try simp at hz); replace D := D.n in9; (try (have x00 := D.lq.b0.c30; have y00 := D.lq.b0.fr 0; have x01 := D.lq.b0.c31; have y01 := D.lq.b0.fr 1; have x02 := D.lq.b0.c32; have y02 := D.lq.b0.fr 2)); (try obtain ⟨na, nb, nc, nd, nl⟩ := D.n0)))
          all_goals
            go_wp2_with fail
            go_meet
            first
            | ((with_reducible refine made1d_a D ?_) <;> (repeat (first | (with_reducible exact List.mem_cons_self) | apply List.mem_cons_of_mem)))
            | ((with_reducible refine made1d_b D ?_) <;> (repeat (first | (with_reducible exact List.mem_cons_self) | apply List.mem_cons_of_mem)))
        case rest =>
          obtain ⟨g5, A9, c9, rfl, hg9, bw, hb9, q1⟩ := hcut
          have L := ((LL.out.step bw).n q1).b hb9
          have hl_g5 := hg9
          clear D D0 hmd LL hb9 q1 bw hg9 HVW Q0 Q1 Q2 hc0
          generalize wc = wd5 at *
          have c00 := L.b0.c30
          have c01 := L.b0.c31
          have c02 := L.b0.c32
          (try go_wp2_with fail)
          refine (G11.out _ _ (isD_n (m := MG) (e := EG) (s := .slice A9 (zl MG) c9) (L.getN (by simp))) L.below).mono ?_
          rintro e w7 ⟨v9, rfl, iz, be⟩
          clear c00 c01 c02
          obtain ⟨AH, cH, rfl, _, in9⟩ := iz.form
          replace L := (L.step be).n in9
          clear be iz in9
          have hl9 := L.b0.lt
          replace L := L.varD w7.heap.size rfl (ng MH) AH (zl MH) cH EH
          have c00 := L.b0.c30
          have c01 := L.b0.c31
          have c02 := L.b0.c32
          go_wp2_with fail
          clear c00 c01 c02
          obtain ⟨g6, hg6⟩ : ∃ g9, w7.heap.size = g9 := ⟨_, rfl⟩
          rw [hg6] at L hl9 ⊢
          clear hg6
          have hl_g6 := hl9
          clear hl9
          (try go_wp2_with fail)
          obtain ⟨V, hV, L9⟩ := L.name
          rw [hV]
          clear hV L
          have L := L9
          clear L9
          have Q0 := Lib.hid (fun Z (hZ : Below V.heap.size V Z) => (L.tl.tl.tl.tl.tl.tl.tl.b0.mono hZ).c30)
          have Q1 := Lib.hid (fun Z (hZ : Below V.heap.size V Z) => (L.tl.tl.tl.tl.tl.tl.tl.b0.mono hZ).c31)
          have Q2 := Lib.hid (fun Z (hZ : Below V.heap.size V Z) => (L.tl.tl.tl.tl.tl.tl.tl.b0.mono hZ).c32)
          have hb0 := L.tl.tl.tl.tl.tl.tl.tl.b0.lt
          have D0 : Dq V V [(.slice B (zl ML) d, (ML : Int).natAbs)] [] [] [] := ⟨((Lq.mk0 V).n (L.getN (v := .slice B (zl ML) d) (x := (ML : Int).natAbs) (by simp))), List.nodup_nil, fun p hp => by cases hp⟩
          have D := D0.drew
          have hVw := L.below.size
          have HVW := Lib.hid (fun Z (hZ : Below V.heap.size V Z) => L.below.trans (hZ.mono hVw))
          have LL := Lib.hid L
          clear L
          obtain ⟨K, hK⟩ : ∃ K, V.heap.size = K := ⟨_, rfl⟩
          have hz0 : K ≤ V.heap.size := by omega
          have hmd : V.drew.heap.size = K := hK
          have hc0 : w.heap.size + 1 < K := by omega
          go_cut [18, 19] from 66 to 73 (fun s0 s1 wx => s1 = .int .i64 0 ∧ Made1D V MX EX s0 wx)
          case first =>
            go_region_held3 (fun w' => w'.cell? ⟨w.heap.size + 1, 0, none⟩ = some (.bool (ng ML)) ∧ w'.cell? ⟨w.heap.size + 1, 1, none⟩ = some (.slice B (zl ML) d) ∧ w'.cell? ⟨w.heap.size + 1, 2, none⟩ = some (.int .i64 EL)) (((try dsimp only); refine ⟨?_, ?_, ?_⟩ <;> (repeat (first | (with_reducible exact Q0.out _ D.lq.below) | (with_reducible exact Q0.out _ D0.lq.below) | (with_reducible exact Q1.out _ D.lq.below) | (with_reducible exact Q1.out _ D0.lq.below) | (with_reducible exact Q2.out _ D.lq.below) | (with_reducible exact Q2.out _ D0.lq.below) | (with_reducible refine c_alloc _ ?_) | (with_reducible refine c_drew ?_) | (with_reducible refine c_set ?_ (by assumption) ?_) | omega)))) (first | (go_at_call 64; (with_reducible refine (G12.out _ ?_).mono ?_); (· (first | (with_reducible exact HVW.out _ D.lq.below) | (with_reducible exact HVW.out _ (D.boxD false none 0 0 0).lq.below) | (with_reducible exact HVW.out _ (D0.boxD false none 0 0 0).drew.lq.below))); rintro e9 wh ⟨vh, rfl, id, be⟩; obtain ⟨A3, c3, rfl, _, in9⟩ := id.form; (first | (replace D := D.step be) | (replace D := (D.boxMD hmd false none 0 0 0).step be) | (replace D := (D.boxD false none 0 0 0).step be)); have hz := be.size; (try simp at hz); replace D := D.n in9; (try (have x00 := D.lq.b0.c30; have y00 := D.lq.b0.fr 0; have x01 := D.lq.b0.c31; have y01 := D.lq.b0.fr 1; have x02 := D.lq.b0.c32; have y02 := D.lq.b0.fr 2)); (try obtain ⟨na, nb, nc, nd, nl⟩ := D.n0)) | (go_at_call 67; (with_reducible refine (G13.out _ _ _ ?_ ?_ ?_).mono ?_); (· (first | (with_reducible refine isD_n (D.getN ?_); (repeat (first | (with_reducible exact List.mem_cons_self) | apply List.mem_cons_of_mem))) | (with_reducible refine isD_n ((D.boxD false none 0 0 0).getN ?_); (repeat (first | (with_reducible exact List.mem_cons_self) | apply List.mem_cons_of_mem))) | (with_reducible refine isD_n ((D0.boxD false none 0 0 0).drew.getN ?_); (repeat (first | (with_reducible exact List.mem_cons_self) | apply List.mem_cons_of_mem))))); (· (first | (with_reducible refine isD_n (D.getN ?_); (repeat (first | (with_reducible exact List.mem_cons_self) | apply List.mem_cons_of_mem))) | (with_reducible refine isD_n ((D.boxD false none 0 0 0).getN ?_); (repeat (first | (with_reducible exact List.mem_cons_self) | apply List.mem_cons_of_mem))) | (with_reducible refine isD_n ((D0.boxD false none 0 0 0).drew.getN ?_); (repeat (first | (with_reducible exact List.mem_cons_self) | apply List.mem_cons_of_mem))))); (· (first | (with_reducible exact HVW.out _ D.lq.below) | (with_reducible exact HVW.out _ (D.boxD false none 0 0 0).lq.below) | (with_reducible exact HVW.out _ (D0.boxD false none 0 0 0).drew.lq.below))); rintro e9 wh ⟨vh, rfl, id, be⟩; obtain ⟨A4, c4, rfl, _, in9⟩ := id.form; (first | (replace D := D.step be) | (replace D := (D.boxMD hmd false none 0 0 0).step be) | (replace D := (D.boxD false none 0 0 0).step be)); have hz := be.size; (try simp at hz); replace D := D.n in9; (try (have x00 := D.lq.b0.c30; have y00 := D.lq.b0.fr 0; have x01 := D.lq.b0.c31; have y01 := D.lq.b0.fr 1; have x02 := D.lq.b0.c32; have y02 := D.lq.b0.fr 2)); (try obtain ⟨na, nb, nc, nd, nl⟩ := D.n0)))
            all_goals
              go_wp2_with fail
              go_meet
              refine ⟨rfl, ?_⟩
              first
              | ((with_reducible refine made1d_a D ?_) <;> (repeat (first | (with_reducible exact List.mem_cons_self) | apply List.mem_cons_of_mem)))
              | ((with_reducible refine made1d_b D ?_) <;> (repeat (first | (with_reducible exact List.mem_cons_self) | apply List.mem_cons_of_mem)))
          case rest =>
            obtain ⟨rfl, g7, AX, cX, rfl, hg9, bw, hb9, q1⟩ := hcut
            have L := ((LL.out.step bw).n q1).b hb9
            have hl_g7 := hg9
            clear D D0 hmd LL hb9 q1 bw hg9 HVW Q0 Q1 Q2 hc0
            generalize wc = wd7 at *
            have c00 := L.b0.c30
            have c01 := L.b0.c31
            have c02 := L.b0.c32
            have c10 := L.tl.b0.c30
            have c11 := L.tl.b0.c31
            have c12 := L.tl.b0.c32
            (try go_wp2_with fail)
            refine (G14.out _ _ _ (isD_n (m := MH) (e := EH) (s := .slice AH (zl MH) cH) (L.getN (by simp))) (isD_n (m := MX) (e := EX) (s := .slice AX (zl MX) cX) (L.getN (by simp))) L.below).mono ?_
            rintro e w9 ⟨v9, rfl, iz, be⟩
            clear c00 c01 c02 c10 c11 c12
            obtain ⟨AS, cS, rfl, _, in9⟩ := iz.form
            replace L := (L.step be).n in9
            clear be iz in9
            have hl9 := L.b0.lt
            have L9 := L.subx (ns' := [(.slice AS (zl MS) cS, MS.natAbs)]) (bs' := [(w.heap.size + 1 + 1, 26, #[.bool false, .slice none 0 0, .int .i64 0])]) (by simp) (by simp)
            clear L
            have L := L9
            clear L9
            have n9 : w.heap.size + 1 + 1 ≠ w9.heap.size := by omega
            have c00 := L.b0.c30
            have f00 := L.b0.fr 0
            have c01 := L.b0.c31
            have f01 := L.b0.fr 1
            have c02 := L.b0.c32
            have f02 := L.b0.fr 2
            have LN := L.varD w9.heap.size rfl (ng MS) AS (zl MS) cS ES
            have v0 := LN.b0.c30
            have v1 := LN.b0.c31
            have v2 := LN.b0.c32
            have v3 := LN.tl.b0.c30
            have v4 := LN.tl.b0.c31
            have v5 := LN.tl.b0.c32
            have v6 := LN.tl.b0.fr 0
            have v7 := LN.tl.b0.fr 1
            have v8 := LN.tl.b0.fr 2
            go_wp2_with fail
            clear c00 f00 c01 f01 c02 f02
            clear v0 v1 v2 v3 v4 v5 v6 v7 v8
            clear L
            have L := LN.swap
            clear LN
            obtain ⟨hok, aS⟩ := HOK.out
            obtain ⟨hMS, hES⟩ := HSS.out
            subst hMS hES
            have LP := L.putD (by omega) (by first | (simp; done) | (simp; omega)) (ng (mkM S (-(p : Int)))) AS (zl (mkM S (-(p : Int)))) cS (mkE S (-(p : Int)))
            have k0 := LP.b0.c30
            have k1 := LP.b0.c31
            have k2 := LP.b0.c32
            unfold put3 at k0 k1 k2
            exact bodyPost_ret (v := .agg #[.bool (ng (mkM S (-(p : Int)))), .slice AS (zl (mkM S (-(p : Int)))) cS, .int .i64 (mkE S (-(p : Int)))]) (by simp [results, Tryz.results40, go_sem, k0, k1, k2]) rfl ⟨S, hok, aS, _, rfl, isD_n (LP.getN (by simp)), LP.below⟩

theorem plainP (a : Int) (F : Nat) (n : Int) : Plain #[.int .i64 a, .func (.func F) #[] #[], .int .i64 n] := fun j x => by
  match j with
  | 0 => simp
  | 1 => simp
  | 2 => simp
  | j + 3 => simp
theorem Lq.varP {w0 w : World} {ns : List (Value × Nat)} {zs : List (Value × Int)} {qs : List (Value × Int × Nat)} {bs : List (Nat × TypeId × Array Value)} (h : Lq w0 w ns zs qs bs) (g : Nat) (hg : g = w.heap.size) (a : Int) (F : Nat) (n : Int) : Lq w0 (w.alloc (.cells #[.int .i64 a, .func (.func F) #[] #[], .int .i64 n] 94)) ns zs qs ((g, 94, #[.int .i64 a, .func (.func F) #[] #[], .int .i64 n]) :: bs) := h.var g hg _ _ (plainP _ _ _)
theorem Lq.subs {w0 w : World} {ns : List (Value × Nat)} {zs : List (Value × Int)} {qs : List (Value × Int × Nat)} {bs : List (Nat × TypeId × Array Value)} (h : Lq w0 w ns zs qs bs) {ns' : List (Value × Nat)} {bs' : List (Nat × TypeId × Array Value)} (h1 : ∀ p ∈ ns', p ∈ ns) (h2 : ∀ b ∈ bs', b ∈ bs) : Lq w0 w ns' [] [] bs' :=
  ⟨h.below, fun x hx => h.ns x (h1 x hx), fun _ x => (by cases x), fun _ x => (by cases x), fun x hx => h.bs x (h2 x hx)⟩

set_option maxHeartbeats 16000000 in
theorem csum_any (F : Nat) (hen : ∀ args w, (callFunc F args).run Tryz.prog w = .ok (.enter F args) w) (p : Nat → Int × Int) (n fac S : Int) (v : Nat) (w : World) (hg : GdP p) (hS : smP p 600 0 (2 ^ v) 0 = some S) (hfac : AbP fac 10) (hv : v ≤ 4200) (hT : Tab w) (hf : ∀ (j : Nat) W, j ≤ 1000 → Calls Tryz.prog F #[.int .i64 n, .int .i64 (j : Int)] W (RetQ W (Rat.divInt (p j).1 (p j).2))) :
    Calls Tryz.prog 122 #[.agg #[.int .i64 fac, .func (.func F) #[] #[], .int .i64 n], .int .i64 (v : Int)] w (RetD8 w (mkM (S * fac) 0) (mkE (S * fac) 0)) := by
  have hfb : -1024 ≤ fac ∧ fac ≤ 1024 := by
    have e10 : (2 : Nat) ^ 10 = 1024 := by decide
    unfold AbP at hfac
    rw [e10] at hfac
    omega
  have hSb := smP_abs hg 600 0 _ _ _ (sp_first hS)
  have HR0 := sp_first hS
  have HT := Lib.hid (fun W (hW : Below w.heap.size w W) => hT.mono hW)
  have g1 := fun W (hW : Below w.heap.size w W) => dof_any 1 W (by omega) (by omega) (hT.mono hW)
  obtain ⟨u1, u2, u3⟩ := nf_up (k := v) (by omega)
  obtain ⟨_, y2, y3, y4, _, _⟩ := nf (t := 1) (v := 0) (by unfold AbP; decide) (by omega)
  have g2 := fun x W h (hW : Below w.heap.size w W) => dshift_any (mkM 1 0) (mkE 1 0) (v : Int) x W h (by omega) (by omega) (by omega) (hT.mono hW)
  rw [u1, u2, u3] at g2
  have g3 := fun W (hW : Below w.heap.size w W) => dof_any fac W (by omega) (by omega) (hT.mono hW)
  obtain ⟨f1, f2, f3, f4, _, _⟩ := nf hfac (by omega)
  obtain ⟨s1, s2, s3, s4, _, _⟩ := nf hSb (by omega)
  obtain ⟨m1, m2, m3⟩ := nf_mul hSb hfac (by omega)
  have g4 := fun x y W h k (hW : Below w.heap.size w W) => dmul_any (mkM S 0) (mkE S 0) (mkM fac 0) (mkE fac 0) x y W h k (by omega) (by omega) (by omega) (by omega) (hT.mono hW)
  rw [m1, m2, m3] at g4
  clear hfb hfac u1 u2 u3 y2 y3 y4 f1 f2 f3 f4 s1 s2 s3 s4 m1 m2 m3 hS hSb
  generalize mkM (S * fac) 0 = Mr at *
  generalize mkE (S * fac) 0 = Er at *
  generalize mkM fac 0 = Mf at *
  generalize mkE fac 0 = Ef at *
  generalize mkM 1 0 = M1 at *
  generalize mkE 1 0 = E1 at *
  generalize hP : (2 : Int) ^ v = P at *
  obtain ⟨M, hM⟩ : ∃ z, mkM P 0 = z := ⟨_, rfl⟩
  obtain ⟨E, hE⟩ : ∃ z, mkE P 0 = z := ⟨_, rfl⟩
  rw [hM, hE] at g2
  have HR := Lib.hid (And.intro HR0 (And.intro (And.intro hM hE) nf00))
  have G1 := Lib.hid g1
  have G2 := Lib.hid g2
  have G3 := Lib.hid g3
  have G4 := Lib.hid g4
  have HF := Lib.hid hf
  have HG := Lib.hid hg
  have HV := Lib.hid hv
  clear g1 g2 g3 g4 hf hg hv HR0 hM hE hP hT
  go_enter Tryz.func122, Tryz.ntmps122
  have L := ((((Lq.mk0 w).varP (w.heap.size) (by simp) fac F n).varD (w.heap.size + 1) (by simp) false none 0 0 0).varD (w.heap.size + 2) (by simp) false none 0 0 0)
  have c00 := L.b0.c30
  have f00 := L.b0.fr 0
  have c01 := L.b0.c31
  have f01 := L.b0.fr 1
  have c02 := L.b0.c32
  have f02 := L.b0.fr 2
  (try go_wp2_with fail)
  refine (G1.out _ L.below).mono ?_
  rintro e w1 ⟨v1, rfl, id, be⟩
  clear c00 f00 c01 f01 c02 f02
  replace L := L.step be
  clear be
  (try go_wp2_with fail)
  refine (G2.out _ _ id L.below).mono ?_
  rintro e w2 ⟨v2, rfl, iz, be⟩
  obtain ⟨A1, c1, rfl, _, in9⟩ := iz.form
  replace L := (L.step be).n in9
  clear be iz in9 id
  have hl9 := L.b0.lt
  replace L := L.varD w2.heap.size rfl (ng M) A1 (zl M) c1 E
  have c00 := L.b0.c30
  have c01 := L.b0.c31
  have c02 := L.b0.c32
  go_wp2_with fail
  clear c00 c01 c02
  obtain ⟨gt, hgt⟩ : ∃ g9, w2.heap.size = g9 := ⟨_, rfl⟩
  rw [hgt] at L hl9 ⊢
  clear hgt
  clear G1 G2
  go_loopw [8] (fun i wr => ∃ (f k : Nat) (t s M E N K : Int) (A1 A2 : Option Addr) (c1 c2 : Nat), i = .int .i64 (k : Int) ∧ Lq w wr [(.slice A1 (zl M) c1, M.natAbs), (.slice A2 (zl N) c2, N.natAbs)] [] [] [(gt, 26, #[.bool (ng M), .slice A1 (zl M) c1, .int .i64 E]), (w.heap.size + 2, 26, #[.bool (ng N), .slice A2 (zl N) c2, .int .i64 K]), (w.heap.size, 94, #[.int .i64 fac, .func (.func F) #[] #[], .int .i64 n]), (w.heap.size + 1, 26, #[.bool false, .slice none 0 0, .int .i64 0])] ∧ Hid (SpI p v f k t s S ∧ (mkM t 0 = M ∧ mkE t 0 = E) ∧ mkM s 0 = N ∧ mkE s 0 = K)) (fun i _ => 700 - (intOf i).toNat)
  case atStart =>
    have zz : zl 0 = 0 := len_zero
    have LN := L.n (v := .slice none 0 0) (x := 0) (IsN.zero _)
    refine ⟨600, 0, P, 0, M, E, 0, 0, A1, none, c1, 0, by go_num, ?_, HR⟩
    rw [zz]
    exact LN.subs (by simp) (by simp [ng])
  case round =>
    clear L HR
    obtain ⟨f, k, t, s, M, E, N, K, A1, A2, c1, c2, rfl, L, HR⟩ := hrel
    obtain ⟨hI, ⟨hM, hE⟩, hN, hK⟩ := HR.out
    have hv := HV.out
    obtain ⟨ht, hs, hfk, _⟩ := id hI
    obtain ⟨_, z2, z3, z4, _, _⟩ := nf ht (by omega)
    obtain ⟨q1, q2⟩ := nf_rat ht (by omega)
    obtain ⟨g, rfl, hk, ht2, n1, n2⟩ := hI.step HG.out
    obtain ⟨r1, r2, r3, r4, _, _⟩ := nf ht2 (by omega)
    have r5 := nf_sign ht2 (by omega)
    obtain ⟨p1, p2, p3⟩ := HG.out k (by omega)
    have zt := ht.zl
    have hb9 := L.tl.b0.lt
    have hc9 := L.b0.lt
    have o1 := fun x W h => drat_any (mkM t 0) (mkE t 0) x W h (by omega) (by omega)
    rw [q1, q2] at o1
    have o2 := fun W => HF.out k W (by omega)
    unfold RetQ at o2
    have cs := cut_st p k t p2
    obtain ⟨d, hd⟩ : ∃ d : Nat, (p k).2 = (d : Int) := ⟨(p k).2.toNat, by omega⟩
    have ds := divInt_small (p k).1 d 2 (show zl (p k).1 ≤ 2 from len_le2 (by omega)) (len_le2 (by omega)) (by omega)
    rw [← hd] at ds
    have dp := den_pos' (Rat.divInt (p k).1 (p k).2)
    generalize (Rat.divInt (p k).1 (p k).2).num = a at *
    generalize (Rat.divInt (p k).1 (p k).2).den = b at *
    have o3 := fun x y W h j => pmul_any t 1 a b x y W h j (by omega) (show len 1 ≤ 1000000 from Nat.le_trans (len_le1 (by omega)) (by omega)) (by omega) (by omega) (by omega) dp
    unfold RetQ at o3
    have sz := divInt_small (t * a) (1 * b) 600 (by have := zl_mul t a; omega) (by rw [Nat.one_mul]; omega) (by omega)
    rw [Int.natCast_mul] at sz
    have xp := den_pos' (Rat.divInt (t * a) (((1 : Nat) : Int) * (b : Int)))
    have xe := rat_self (Rat.divInt (t * a) (((1 : Nat) : Int) * (b : Int)))
    generalize Rat.divInt (t * a) (((1 : Nat) : Int) * (b : Int)) = X at *
    have o4 := fun x W h (hW : Below w.heap.size w W) => gfloorR_any X.num X.den 0 x W h (by omega) (by omega) xp (by omega) (by omega) (HT.out W hW)
    obtain ⟨e1, e2, e3⟩ := g_yes (p := 0) (by decide) (cutQ (Rat.divInt X.num (X.den : Int)) 0)
    rw [e1, e2, e3, xe, cs, Int.neg_zero, r1] at o4
    have o5 := fun x W h => dsign_any (mkM (stP p k t) 0) (mkE (stP p k t) 0) x W h (by omega)
    have hsu := ht2.up (show v ≤ v + k by omega)
    obtain ⟨a1, a2, a3⟩ := nf_add hs hsu (by omega)
    obtain ⟨_, b2, b3, b4, _, _⟩ := nf hs (by omega)
    have o6 := fun x y W h j (hW : Below w.heap.size w W) => dadd_any (mkM s 0) (mkE s 0) (mkM (stP p k t) 0) (mkE (stP p k t) 0) x y W h j (by omega) (by omega) (by omega) (by omega) (HT.out W hW)
    rw [a1, a2, a3] at o6
    have w3 : IntKind.i64.wrap ((k : Int) + 1) = (k : Int) + 1 := by rw [IntKind.wrap_i64]; omega
    clear q1 q2 z2 z3 z4 p1 p2 p3 hd ds cs sz xp xe e1 e2 e3 r1 r2 r3 r4 a1 a2 a3 b2 b3 b4 hsu zt dp hI hv ht hs ht2
    obtain ⟨t2, ht2⟩ : ∃ z, stP p k t = z := ⟨_, rfl⟩
    rw [ht2] at n1 n2 r5 o4 o5 o6
    obtain ⟨s2, hs2⟩ : ∃ z, s + t2 = z := ⟨_, rfl⟩
    rw [hs2] at n2 o6
    rw [hM, hE] at o1
    rw [hN, hK] at o6
    obtain ⟨M2, hM2⟩ : ∃ z, mkM t2 0 = z := ⟨_, rfl⟩
    obtain ⟨E2, hE2⟩ : ∃ z, mkE t2 0 = z := ⟨_, rfl⟩
    obtain ⟨N2, hN2⟩ : ∃ z, mkM s2 0 = z := ⟨_, rfl⟩
    obtain ⟨K2, hK2⟩ : ∃ z, mkE s2 0 = z := ⟨_, rfl⟩
    rw [hM2, hE2] at o4 o5 o6
    rw [hM2] at r5
    rw [hN2, hK2] at o6
    generalize X.num = xa at *
    generalize X.den = xd at *
    obtain ⟨sg9, hsg9⟩ : ∃ z, cmpI M2 0 = z := ⟨_, rfl⟩
    rw [hsg9] at o5 r5
    have O1 := Lib.hid o1
    have O2 := Lib.hid o2
    have O3 := Lib.hid o3
    have O4 := Lib.hid o4
    have O5 := Lib.hid o5
    have O6 := Lib.hid o6
    have HQ := Lib.hid (And.intro (And.intro hN hK) (And.intro n1 n2))
    have HM2 := Lib.hid (And.intro (And.intro hM2 hE2) (And.intro hN2 hK2))
    clear o1 o2 o3 o4 o5 o6 hsg9 n1 n2 hM hE hN hK hM2 hE2 hN2 hK2 hs2 ht2 HR hfk X
    have nb : w.heap.size + 2 ≠ gt := by omega
    (try go_wp2_with fail)
    replace L := L.drew
    have cel00 := L.b0.c30
    have f00 := L.b0.fr 0
    have cel01 := L.b0.c31
    have f01 := L.b0.fr 1
    have cel02 := L.b0.c32
    have f02 := L.b0.fr 2
    have cel20 := L.tl.tl.b0.c30
    have cel21 := L.tl.tl.b0.c31
    have cel22 := L.tl.tl.b0.c32
    go_cut [30] from 18 to 30 (fun s9 wx => ∃ (A3 : Option Addr) (c3 : Nat), Lq w wx [(.slice A3 (zl M2) c3, M2.natAbs), (.slice A2 (zl N) c2, N.natAbs)] [] [] [(gt, 26, #[.bool (ng M2), .slice A3 (zl M2) c3, .int .i64 E2]), (w.heap.size + 2, 26, #[.bool (ng N), .slice A2 (zl N) c2, .int .i64 K]), (w.heap.size, 94, #[.int .i64 fac, .func (.func F) #[] #[], .int .i64 n]), (w.heap.size + 1, 26, #[.bool false, .slice none 0 0, .int .i64 0])])
    case first =>
      go_region_with (first | (go_at_call 166; (with_reducible refine (O1.out _ _ ?_ ).mono ?_); (· (refine isD_n (L.getN ?_); (repeat (first | (with_reducible exact List.mem_cons_self) | apply List.mem_cons_of_mem)))); rintro e9 wh ⟨vh, rfl, iq, be⟩; obtain ⟨Af, cf, Bf, df, rfl, _, _, _⟩ := iq.form; replace L := (L.step be).q iq; clear be iq; (try (have xx00 := L.b0.c30; have yy00 := L.b0.fr 0; have xx01 := L.b0.c31; have yy01 := L.b0.fr 1; have xx02 := L.b0.c32; have yy02 := L.b0.fr 2)); (try (have xx20 := L.tl.tl.b0.c30; have xx21 := L.tl.tl.b0.c31; have xx22 := L.tl.tl.b0.c32))) | ((with_reducible refine (O2.out _ ).mono ?_); rintro e9 wh ⟨vh, rfl, iq, be⟩; obtain ⟨Af, cf, Bf, df, rfl, _, _, _⟩ := iq.form; replace L := (L.step be).q iq; clear be iq; (try (have xx00 := L.b0.c30; have yy00 := L.b0.fr 0; have xx01 := L.b0.c31; have yy01 := L.b0.fr 1; have xx02 := L.b0.c32; have yy02 := L.b0.fr 2)); (try (have xx20 := L.tl.tl.b0.c30; have xx21 := L.tl.tl.b0.c31; have xx22 := L.tl.tl.b0.c32))) | (go_at_call 165; (with_reducible refine (O3.out _ _ _ ?_ ?_ ).mono ?_); (· (refine L.getQ ?_; (repeat (first | (with_reducible exact List.mem_cons_self) | apply List.mem_cons_of_mem)))); (· (refine L.getQ ?_; (repeat (first | (with_reducible exact List.mem_cons_self) | apply List.mem_cons_of_mem)))); rintro e9 wh ⟨vh, rfl, iq, be⟩; obtain ⟨Af, cf, Bf, df, rfl, _, _, _⟩ := iq.form; replace L := (L.step be).q iq; clear be iq; (try (have xx00 := L.b0.c30; have yy00 := L.b0.fr 0; have xx01 := L.b0.c31; have yy01 := L.b0.fr 1; have xx02 := L.b0.c32; have yy02 := L.b0.fr 2)); (try (have xx20 := L.tl.tl.b0.c30; have xx21 := L.tl.tl.b0.c31; have xx22 := L.tl.tl.b0.c32))) | (go_at_call 164; (with_reducible refine (O4.out _ _ ?_ ?_ ).mono ?_); (· (refine L.getQ ?_; (repeat (first | (with_reducible exact List.mem_cons_self) | apply List.mem_cons_of_mem)))); (· exact L.below); rintro e9 wh ⟨vh, rfl, id, be⟩; obtain ⟨A3, c3, rfl, _, in9⟩ := id.form; replace L := (L.step be).n in9; clear be id in9; (try (have xx00 := L.b0.c30; have yy00 := L.b0.fr 0; have xx01 := L.b0.c31; have yy01 := L.b0.fr 1; have xx02 := L.b0.c32; have yy02 := L.b0.fr 2)); (try (have xx20 := L.tl.tl.b0.c30; have xx21 := L.tl.tl.b0.c31; have xx22 := L.tl.tl.b0.c32))))
      all_goals
        have P := L.putD (by omega) (by first | (simp; done) | (simp; omega)) (ng M2) A3 (zl M2) c3 E2
        unfold put3 at P
        go_wp2_with fail
        go_meet
        exact ⟨A3, c3, P.subs (by simp) (by simp)⟩
    case rest =>
      clear L
      obtain ⟨A3, c3, L⟩ := hcut
      have hgt := L.b0.lt
      have cel00 := L.b0.c30
      have f00 := L.b0.fr 0
      have cel01 := L.b0.c31
      have f01 := L.b0.fr 1
      have cel02 := L.b0.c32
      have f02 := L.b0.fr 2
      (try go_wp2_with fail)
      refine (O5.out _ _ (isD_n (m := M2) (e := E2) (s := .slice A3 (zl M2) c3) (L.getN (by simp)))).mono ?_
      rintro e w12 ⟨rfl, be⟩
      clear cel00 f00 cel01 f01 cel02 f02
      replace L := L.step be
      clear be
      by_cases h0 : t2 = 0
      · have r6 : (sg9 == 0) = true := r5.trans (decide_eq_true h0)
        obtain rfl := HQ.out.2.1 h0
        have G4' := G4.out
        rw [HQ.out.1.1, HQ.out.1.2] at G4'
        have G5 := Lib.hid G4'
        clear G4' G4 r5 HQ HM2 O1 O2 O3 O4 O5 O6
        replace L := L.swap
        have cel00 := L.b0.c30
        have f00 := L.b0.fr 0
        have cel01 := L.b0.c31
        have f01 := L.b0.fr 1
        have cel02 := L.b0.c32
        have f02 := L.b0.fr 2
        have cel20 := L.tl.tl.b0.c30
        have cel21 := L.tl.tl.b0.c31
        have cel22 := L.tl.tl.b0.c32
        (try go_wp2_with fail)
        replace L := L.drew
        clear cel00 f00 cel01 f01 cel02 f02 cel20 cel21 cel22
        have cel00 := L.b0.c30
        have f00 := L.b0.fr 0
        have cel01 := L.b0.c31
        have f01 := L.b0.fr 1
        have cel02 := L.b0.c32
        have f02 := L.b0.fr 2
        have cel20 := L.tl.tl.b0.c30
        have cel21 := L.tl.tl.b0.c31
        have cel22 := L.tl.tl.b0.c32
        go_region_with (first | (go_at_call 64; (with_reducible refine (G3.out _ ?_ ).mono ?_); (· exact L.below); rintro e9 wh ⟨vh, rfl, id, be⟩; obtain ⟨A4, c4, rfl, _, in9⟩ := id.form; replace L := (L.step be).n in9; clear be id in9; (try (have xx00 := L.b0.c30; have yy00 := L.b0.fr 0; have xx01 := L.b0.c31; have yy01 := L.b0.fr 1; have xx02 := L.b0.c32; have yy02 := L.b0.fr 2)); (try (have xx20 := L.tl.tl.b0.c30; have xx21 := L.tl.tl.b0.c31; have xx22 := L.tl.tl.b0.c32))) | (go_at_call 67; (with_reducible refine (G5.out _ _ _ ?_ ?_ ?_ ).mono ?_); (· (refine isD_n (L.getN ?_); (repeat (first | (with_reducible exact List.mem_cons_self) | apply List.mem_cons_of_mem)))); (· (refine isD_n (L.getN ?_); (repeat (first | (with_reducible exact List.mem_cons_self) | apply List.mem_cons_of_mem)))); (· exact L.below); rintro e9 wh ⟨vh, rfl, id, be⟩; obtain ⟨A5, c5, rfl, _, in9⟩ := id.form; replace L := (L.step be).n in9; clear be id in9; (try (have xx00 := L.b0.c30; have yy00 := L.b0.fr 0; have xx01 := L.b0.c31; have yy01 := L.b0.fr 1; have xx02 := L.b0.c32; have yy02 := L.b0.fr 2)); (try (have xx20 := L.tl.tl.b0.c30; have xx21 := L.tl.tl.b0.c31; have xx22 := L.tl.tl.b0.c32))))
        all_goals
          clear cel00 f00 cel01 f01 cel02 f02 cel20 cel21 cel22
          have P := L.putD (by omega) (by first | (simp; done) | (simp; omega)) (ng Mr) A5 (zl Mr) c5 Er
          have p0 := P.b0.c30
          have p1 := P.b0.c31
          have p2 := P.b0.c32
          have q0 := P.tl.tl.tl.b0.c30
          have q1 := P.tl.tl.tl.b0.c31
          have q2 := P.tl.tl.tl.b0.c32
          have q3 := P.tl.tl.tl.b0.fr 0
          have q4 := P.tl.tl.tl.b0.fr 1
          have q5 := P.tl.tl.tl.b0.fr 2
          unfold put3 at p0 p1 p2 q0 q1 q2 q3 q4 q5 P
          go_wp2_with fail
          replace L := P.pull2.swap.pull2.pull2
          clear P p0 p1 p2 q0 q1 q2 q3 q4 q5
          have L4 : Lq w _ _ _ _ _ := L.subs (ns' := [(.slice A5 (zl Mr) c5, Mr.natAbs)]) (bs' := [(w.heap.size + 1, 26, #[.bool false, .slice none 0 0, .int .i64 0])]) (by simp) (by simp)
          clear L
          have L := L4
          have LP := L.putD (by omega) (by first | (simp; done) | (simp; omega)) (ng Mr) A5 (zl Mr) c5 (Er)
          have k0 := LP.b0.c30
          have k1 := LP.b0.c31
          have k2 := LP.b0.c32
          unfold put3 at k0 k1 k2
          exact bodyPost_ret (v := .agg #[.bool (ng Mr), .slice A5 (zl Mr) c5, .int .i64 (Er)]) (by simp [results, Tryz.results122, go_sem, k0, k1, k2]) rfl ⟨_, rfl, isD_n LP.hn, LP.below⟩
      · have r6 : (sg9 == 0) = false := r5.trans (decide_eq_false h0)
        have HI := Lib.hid (HQ.out.2.2 h0)
        clear r5 HQ O1 O2 O3 O4 O5 G3 G4
        replace L := L.swap
        have cel00 := L.b0.c30
        have f00 := L.b0.fr 0
        have cel01 := L.b0.c31
        have f01 := L.b0.fr 1
        have cel02 := L.b0.c32
        have f02 := L.b0.fr 2
        have cel10 := L.tl.b0.c30
        have cel11 := L.tl.b0.c31
        have cel12 := L.tl.b0.c32
        go_wp2_with fail
        refine (O6.out _ _ _ (isD_n (m := N) (e := K) (s := .slice A2 (zl N) c2) (L.getN (by simp))) (isD_n (m := M2) (e := E2) (s := .slice A3 (zl M2) c3) (L.getN (by simp))) L.below).mono ?_
        rintro e w13 ⟨vv, rfl, id, be⟩
        clear cel00 f00 cel01 f01 cel02 f02 cel10 cel11 cel12
        obtain ⟨A6, c6, rfl, _, in9⟩ := id.form
        replace L := (L.step be).n in9
        clear be id in9
        have cel00 := L.b0.c30
        have f00 := L.b0.fr 0
        have cel01 := L.b0.c31
        have f01 := L.b0.fr 1
        have cel02 := L.b0.c32
        have f02 := L.b0.fr 2
        replace L := L.putD (by omega) (by first | (simp; done) | (simp; omega)) (ng N2) A6 (zl N2) c6 K2
        unfold put3 at L
        go_wp2_with fail
        go_roundw
        case rel => exact ⟨g, k + 1, t2, s2, M2, E2, N2, K2, A3, A6, c3, c6, by go_num, L.subs (by simp) (by simp), Lib.hid ⟨HI.out, HM2.out⟩⟩
        case measure => simp [intOf]; omega

set_option maxHeartbeats 8000000 in
theorem i10out_yes (m e n f p : Int) (vx : Value) (w : World) (hx : IsI w vx m e n f) (lm : zl m ≤ 1000) (ln : zl n ≤ 1000) (he : -20000 ≤ e ∧ e ≤ 20000) (hf : -20000 ≤ f ∧ f ≤ 20000) (hp1 : -9223372036854775808 ≤ p) (hp2 : p ≤ 9223372036854775807) (hp : permB p = true) (r1 : mkR (cutQ (dq m e) p) (-p) = 0) (r2 : mkR (-(cutQ (-(dq n f)) p)) (-p) = 0) (hT : Tab w) :
    Calls Tryz.prog 45 #[vx, .int .i64 p] w (RetIE w (mkM (cutQ (dq m e) p) (-p)) (mkE (cutQ (dq m e) p) (-p)) (mkM (-(cutQ (-(dq n f)) p)) (-p)) (mkE (-(cutQ (-(dq n f)) p)) (-p)) 0) := by
  obtain ⟨A, c, B, d, rfl, hn1, hn2⟩ := hx.form
  have L0 := ((Lq.mk0 w).n hn2).n hn1
  have h1 := fun v W h (hW : Below w.heap.size w W) => gfloor_any m e p v W h (by omega) (by omega) hp1 hp2 (hT.mono hW)
  have h2 := fun v W h (hW : Below w.heap.size w W) => gceil_any n f p v W h (by omega) (by omega) hp1 hp2 (hT.mono hW)
  rw [(g_yes hp (cutQ (dq m e) p)).1, (g_yes hp (cutQ (dq m e) p)).2.1, (g_yes hp (cutQ (dq m e) p)).2.2] at h1
  rw [(g_yes hp (-(cutQ (-(dq n f)) p))).1, (g_yes hp (-(cutQ (-(dq n f)) p))).2.1, (g_yes hp (-(cutQ (-(dq n f)) p))).2.2] at h2
  rw [r1] at h1
  rw [r2] at h2
  generalize mkM (cutQ (dq m e) p) (-p) = M at *
  generalize mkE (cutQ (dq m e) p) (-p) = E at *
  generalize mkM (-(cutQ (-(dq n f)) p)) (-p) = N at *
  generalize mkE (-(cutQ (-(dq n f)) p)) (-p) = G at *
  have H1 := Lib.hid h1
  have H2 := Lib.hid h2
  clear h1 h2 hx hn1 hn2 lm ln he hf hp1 hp2 hp hT r1 r2
  go_enter Tryz.func45, Tryz.ntmps45
  go_wp2_with fail
  have L := ((L0.varI (w.heap.size) (by simp) (ng m) A (zl m) c e (ng n) B (zl n) d f).varI (w.heap.size + 1) (by simp) false none 0 0 0 false none 0 0 0)
  have c00 := L.b0.c60
  have f00 := L.b0.fr 0
  have c01 := L.b0.c61
  have f01 := L.b0.fr 1
  have c02 := L.b0.c62
  have f02 := L.b0.fr 2
  have c03 := L.b0.c63
  have f03 := L.b0.fr 3
  have c04 := L.b0.c64
  have f04 := L.b0.fr 4
  have c05 := L.b0.c65
  have f05 := L.b0.fr 5
  have c10 := L.tl.b0.c60
  have c11 := L.tl.b0.c61
  have c12 := L.tl.b0.c62
  have c13 := L.tl.b0.c63
  have c14 := L.tl.b0.c64
  have c15 := L.tl.b0.c65
  (try go_wp2_with fail)
  refine (H1.out _ _ (isD_n (m := m) (e := e) (s := .slice A (zl m) c) (L.getN (v := .slice A (zl m) c) (x := (m).natAbs) (by simp))) L.below).mono ?_
  rintro e w1 ⟨vv, rfl, id, be⟩
  clear c00 f00 c01 f01 c02 f02 c03 f03 c04 f04 c05 f05 c10 c11 c12 c13 c14 c15
  obtain ⟨A8, c8, rfl, _, in9⟩ := id.form
  replace L := (L.step be).n in9
  clear be id in9
  have hlg := L.b0.lt
  replace L := L.varD w1.heap.size rfl (ng M) A8 (zl M) c8 E
  have c00 := L.b0.c30
  have c01 := L.b0.c31
  have c02 := L.b0.c32
  have c20 := L.tl.tl.b0.c60
  have c21 := L.tl.tl.b0.c61
  have c22 := L.tl.tl.b0.c62
  have c23 := L.tl.tl.b0.c63
  have c24 := L.tl.tl.b0.c64
  have c25 := L.tl.tl.b0.c65
  go_wp2_with fail
  obtain ⟨g, hg⟩ : ∃ g, w1.heap.size = g := ⟨_, rfl⟩
  rw [hg] at L hlg c00 c01 c02 ⊢
  clear hg
  refine (H2.out _ _ (isD_n (m := n) (e := f) (s := .slice B (zl n) d) (L.getN (v := .slice B (zl n) d) (x := (n).natAbs) (by simp))) L.below).mono ?_
  rintro e w2 ⟨vv, rfl, id, be⟩
  clear c00 c01 c02 c20 c21 c22 c23 c24 c25
  obtain ⟨A9, c9, rfl, _, in9⟩ := id.form
  replace L := (L.step be).n in9
  clear be id in9
  have hlk9 := L.b0.lt
  replace L := L.varD w2.heap.size rfl (ng N) A9 (zl N) c9 G
  have n1 : w.heap.size + 1 ≠ g := by omega
  have n2 : w.heap.size + 1 ≠ w2.heap.size := by omega
  replace L := L.pull2
  have c00 := L.b0.c60
  have f00 := L.b0.fr 0
  have c01 := L.b0.c61
  have f01 := L.b0.fr 1
  have c02 := L.b0.c62
  have f02 := L.b0.fr 2
  have c03 := L.b0.c63
  have f03 := L.b0.fr 3
  have c04 := L.b0.c64
  have f04 := L.b0.fr 4
  have c05 := L.b0.c65
  have f05 := L.b0.fr 5
  have c10 := L.tl.b0.c30
  have c11 := L.tl.b0.c31
  have c12 := L.tl.b0.c32
  have c20 := L.tl.tl.b0.c30
  have c21 := L.tl.tl.b0.c31
  have c22 := L.tl.tl.b0.c32
  go_wp2_with fail
  have LP := L.putI (by omega) (by simp [n1, n2, Ne.symm n1, Ne.symm n2]) (ng M) A8 (zl M) c8 E (ng N) A9 (zl N) c9 G
  have k0 := LP.b0.c60
  have k1 := LP.b0.c61
  have k2 := LP.b0.c62
  have k3 := LP.b0.c63
  have k4 := LP.b0.c64
  have k5 := LP.b0.c65
  unfold put6 at k0 k1 k2 k3 k4 k5
  exact bodyPost_ret (v := .tuple #[.agg #[.bool (ng M), .slice A8 (zl M) c8, .int .i64 E, .bool (ng N), .slice A9 (zl N) c9, .int .i64 G], .int .i64 0]) (by simp [results, Tryz.results45, go_sem, k0, k1, k2, k3, k4, k5]) rfl ⟨_, rfl, isI_n (LP.getN (by simp)) (LP.getN (by simp)), LP.below⟩

/-- A slice of parts: what its elements hold. -/
def RowP (w : World) (v : Value) (l : List (Int × Nat × Int)) : Prop := ∃ g c, v = .slice (some ⟨g, 0, none⟩) l.length c ∧ g < w.heap.size ∧ ∀ (j : Nat) (x : Int × Nat × Int), l[j]? = some x → w.cell? ⟨g, 3 * j, none⟩ = some (.int .i64 x.1) ∧ w.cell? ⟨g, 3 * j + 1, none⟩ = some (.func (.func x.2.1) #[] #[]) ∧ w.cell? ⟨g, 3 * j + 2, none⟩ = some (.int .i64 x.2.2)
/-- The sum from here on. -/
def ttl : List Int → Int → Int
  | [], s => s
  | c :: l, s => ttl l (s + c)
def SmI (cs : List Int) (u t : Nat) (s T : Int) : Prop := AbP s (u + t) ∧ ttl (cs.drop t) s = T
theorem SmI.step {cs : List Int} {u t : Nat} {s T c : Int} (h : SmI cs u t s T) (hc : cs[t]? = some c) (hb : AbP c u) : SmI cs u (t + 1) (s + c) T := by
  refine ⟨h.1.add (hb.up (by omega)), ?_⟩
  have h2 := h.2
  obtain ⟨hl, e⟩ := List.getElem?_eq_some_iff.1 hc
  rw [List.drop_eq_getElem_cons hl, e, ttl] at h2
  exact h2
theorem SmI.last {cs : List Int} {u : Nat} {s T : Int} (h : SmI cs u cs.length s T) : s = T := by
  have h2 := h.2
  rw [List.drop_length, ttl] at h2
  exact h2
theorem lo_out (T : Int) (k : Nat) {m e : Int} (h : dq m e = dq (T - 262144) (-((k + 32 : Nat) : Int))) : cutQ (dq m e) (k : Int) = loC T := by
  rw [h, cutD_down 32 (by omega)]
  rfl
theorem hi_out (T : Int) (k : Nat) {m e : Int} (h : dq m e = dq (T + 262144) (-((k + 32 : Nat) : Int))) : -(cutQ (-(dq m e)) (k : Int)) = hiC T := by
  rw [h, ← dq_neg, cutD_down 32 (by omega)]
  rfl
theorem loC_abs {T : Int} {u : Nat} (h : AbP T u) (hu : 18 ≤ u) : AbP (loC T) (u + 1) ∧ AbP (hiC T) (u + 1) := by
  have e0 : (262144 : Int) = ((2 ^ 18 : Nat) : Int) := by decide
  have h1 : AbP 262144 u := AbP.up (j := 18) (by unfold AbP; decide) hu
  have a1 := h.add h1.neg
  have a2 := h.add h1
  rw [← Int.sub_eq_add_neg] at a1
  unfold AbP at *
  unfold loC hiC cdv
  have x1 : ((T - 262144) / 4294967296).natAbs ≤ (T - 262144).natAbs := Int.natAbs_ediv_le_natAbs _ _
  have x2 : (-(T + 262144) / 4294967296).natAbs ≤ (-(T + 262144)).natAbs := Int.natAbs_ediv_le_natAbs _ _
  rw [Int.natAbs_neg] at x2 ⊢
  exact ⟨Nat.le_trans x1 a1, Nat.le_trans x2 a2⟩

set_option maxHeartbeats 16000000 in
theorem cencl_yes (k : Nat) (l : List (Int × Nat × Int)) (cs : List Int) (T : Int) (vl : Value) (w : World) (hk : k ≤ 4150) (hl : RowP w vl l) (hlen : cs.length = l.length) (hn : l.length ≤ 100) (hT : Tab w) (hb : ∀ c ∈ cs, AbP c 4850) (hsum : ttl cs 0 = T) (hf : ∀ (j : Nat) x c W, l[j]? = some x → cs[j]? = some c → Below w.heap.size w W → Calls Tryz.prog 122 #[.agg #[.int .i64 x.1, .func (.func x.2.1) #[] #[], .int .i64 x.2.2], .int .i64 ((k + 32 : Nat) : Int)] W (RetD8 W (mkM c 0) (mkE c 0))) :
    Calls Tryz.prog 68 #[.int .i64 (k : Int), vl] w (RetIE w (mkM (loC T) (-(k : Int))) (mkE (loC T) (-(k : Int))) (mkM (hiC T) (-(k : Int))) (mkE (hiC T) (-(k : Int))) 0) := by
  obtain ⟨g, c, rfl, hg, hrow⟩ := hl
  obtain ⟨q, hq⟩ : ∃ q, k + 32 = q := ⟨_, rfl⟩
  obtain ⟨n, hn2⟩ : ∃ n, l.length = n := ⟨_, rfl⟩
  have hTb : AbP T 4950 := by
    have hx : ∀ (r : List Int) (s : Int) (u : Nat), (∀ c ∈ r, AbP c 4850) → AbP s (4850 + u) → AbP (ttl r s) (4850 + (u + r.length)) := fun r => by
      induction r with
      | nil => intro s u _ h; exact h
      | cons c r ih =>
        intro s u h1 h2
        rw [ttl]
        have := ih (s + c) (u + 1) (fun x hx => h1 x (List.mem_cons_of_mem _ hx)) (h2.add ((h1 c List.mem_cons_self).up (by omega)))
        rw [List.length_cons, show u + (r.length + 1) = u + 1 + r.length by omega]
        exact this
    have := hx cs 0 0 hb (AbP.zero _)
    rw [hsum] at this
    exact this.up (by omega)
  obtain ⟨lb1, lb2⟩ := loC_abs hTb (by omega)
  have mb : AbP 262144 4950 := AbP.up (j := 18) (by unfold AbP; decide) (by omega)
  have HP0 := fun W => cperm_any (k : Int) W
  have hkb : okW (k : Int) = true := by
    unfold okW
    rw [decide_eq_true (show (0 : Int) ≤ (k : Int) by omega), decide_eq_true (show (k : Int) ≤ 4224 by omega)]
    rfl
  rw [hkb] at HP0
  have hTT := fun W (hW : Below w.heap.size w W) => hT.mono hW
  have g1 := fun W (hW : Below w.heap.size w W) => dof_any 1 W (by omega) (by omega) (hTT W hW)
  obtain ⟨u1, u2, u3⟩ := nf_up (k := 18) (by omega)
  obtain ⟨_, y2, y3, y4, _, _⟩ := nf (t := 1) (v := 0) (by unfold AbP; decide) (by omega)
  have g2 := fun x W h (hW : Below w.heap.size w W) => dshift_any (mkM 1 0) (mkE 1 0) 18 x W h (by omega) (by omega) (by omega) (hTT W hW)
  rw [show ((18 : Nat) : Int) = 18 from rfl] at u1 u2 u3
  rw [show (2 : Int) ^ 18 = 262144 from by decide] at u2 u3
  rw [u1, u2, u3] at g2
  obtain ⟨_, t2, t3, t4, _, _⟩ := nf hTb (by omega)
  obtain ⟨_, v2, v3, v4, _, _⟩ := nf mb (by omega)
  obtain ⟨a1, a2, a3⟩ := nf_sub hTb mb (by omega)
  obtain ⟨b1, b2, b3⟩ := nf_add hTb mb (by omega)
  have g3 := fun x y W h j (hW : Below w.heap.size w W) => dsub_any (mkM T 0) (mkE T 0) (mkM 262144 0) (mkE 262144 0) x y W h j (by omega) (by omega) (by omega) (by omega) (hTT W hW)
  rw [a1, a2, a3] at g3
  have g4 := fun x y W h j (hW : Below w.heap.size w W) => dadd_any (mkM T 0) (mkE T 0) (mkM 262144 0) (mkE 262144 0) x y W h j (by omega) (by omega) (by omega) (by omega) (hTT W hW)
  rw [b1, b2, b3] at g4
  have lob : AbP (T - 262144) 4951 := by rw [Int.sub_eq_add_neg]; exact hTb.add mb.neg
  have hib : AbP (T + 262144) 4951 := hTb.add mb
  obtain ⟨d1, d2, d3, d4, d5, d6⟩ := nf_down (k := q) lob (by omega) (by omega)
  obtain ⟨e1, e2, e3, e4, e5, e6⟩ := nf_down (k := q) hib (by omega) (by omega)
  obtain ⟨_, i2, i3, i4, _, _⟩ := nf lob (by omega)
  obtain ⟨_, j2, j3, j4, _, _⟩ := nf hib (by omega)
  have g5 := fun x W h (hW : Below w.heap.size w W) => dshift_any (mkM (T - 262144) 0) (mkE (T - 262144) 0) (-(q : Int)) x W h (by omega) (by omega) (by omega) (hTT W hW)
  have g6 := fun x W h (hW : Below w.heap.size w W) => dshift_any (mkM (T + 262144) 0) (mkE (T + 262144) 0) (-(q : Int)) x W h (by omega) (by omega) (by omega) (hTT W hW)
  rw [d1] at g5
  rw [e1] at g6
  rw [← hq] at d3 e3
  have lo1 := lo_out T k d3
  have hi1 := hi_out T k e3
  rw [hq] at lo1 hi1
  have z1 := (lb1).zl
  have z2 := (lb2).zl
  have hpk : permB (k : Int) = true := by
    unfold permB
    rw [decide_eq_true (show (-2048 : Int) ≤ (k : Int) by omega), decide_eq_true (show (k : Int) ≤ 8192 by omega)]
    rfl
  have g7 := fun x W h (hW : Below w.heap.size w W) => i10out_yes (mkM (mkM (T - 262144) 0) (mkE (T - 262144) 0 + -(q : Int))) (mkE (mkM (T - 262144) 0) (mkE (T - 262144) 0 + -(q : Int))) (mkM (mkM (T + 262144) 0) (mkE (T + 262144) 0 + -(q : Int))) (mkE (mkM (T + 262144) 0) (mkE (T + 262144) 0 + -(q : Int))) (k : Int) x W h (by omega) (by omega) ⟨d5, d6⟩ ⟨e5, e6⟩ (by omega) (by omega) hpk (by rw [lo1]; exact mk_fits9 (by omega) (by omega) (by omega)) (by rw [hi1]; exact mk_fits9 (by omega) (by omega) (by omega)) (hTT W hW)
  rw [lo1, hi1] at g7
  clear lo1 hi1 d1 d2 d3 d4 d5 d6 e1 e2 e3 e4 e5 e6 u1 u2 u3 y2 y3 y4 t2 t3 t4 v2 v3 v4 a1 a2 a3 b1 b2 b3 i2 i3 i4 j2 j3 j4 lob hib lb1 lb2 z1 z2 hkb
  generalize mkM (loC T) (-(k : Int)) = Ma at *
  generalize mkE (loC T) (-(k : Int)) = Ea at *
  generalize mkM (hiC T) (-(k : Int)) = Na at *
  generalize mkE (hiC T) (-(k : Int)) = Fa at *
  generalize mkM (mkM (T - 262144) 0) (mkE (T - 262144) 0 + -(q : Int)) = Mb at *
  generalize mkE (mkM (T - 262144) 0) (mkE (T - 262144) 0 + -(q : Int)) = Eb at *
  generalize mkM (mkM (T + 262144) 0) (mkE (T + 262144) 0 + -(q : Int)) = Nb at *
  generalize mkE (mkM (T + 262144) 0) (mkE (T + 262144) 0 + -(q : Int)) = Fb at *
  generalize mkM (T - 262144) 0 = Mc at *
  generalize mkE (T - 262144) 0 = Ec at *
  generalize mkM (T + 262144) 0 = Nc at *
  generalize mkE (T + 262144) 0 = Fc at *
  generalize mkM 262144 0 = Mm at *
  generalize mkE 262144 0 = Em at *
  generalize mkM 1 0 = M1 at *
  generalize mkE 1 0 = E1 at *
  rw [hq] at hf
  rw [hn2] at hlen hn ⊢
  have w1 : IntKind.i64.wrap ((k : Int) + 32) = (q : Int) := by rw [IntKind.wrap_i64]; omega
  have w2 : IntKind.i64.wrap (-(q : Int)) = -(q : Int) := by rw [IntKind.wrap_i64]; omega
  have HRW := Lib.hid hrow
  have HB := Lib.hid hb
  have HN := Lib.hid (And.intro hn2 hlen)
  have HT := Lib.hid hTT
  have HF := Lib.hid hf
  have HP := Lib.hid HP0
  have HS := Lib.hid (show SmI cs 4850 0 0 T from ⟨AbP.zero _, hsum⟩)
  have G1 := Lib.hid g1
  have G2 := Lib.hid g2
  have G3 := Lib.hid g3
  have G4 := Lib.hid g4
  have G5 := Lib.hid g5
  have G6 := Lib.hid g6
  have G7 := Lib.hid g7
  clear g1 g2 g3 g4 g5 g6 g7 hf hT hTT hb hsum HP0 hrow hpk hTb mb hq hn2 hlen
  go_enter Tryz.func68, Tryz.ntmps68
  have L := ((Lq.mk0 w).varI (w.heap.size) (by simp) false none 0 0 0 false none 0 0 0)
  (try go_wp2_with fail)
  refine (HP.out _).mono ?_
  rintro e9 w' ⟨rfl, rfl⟩
  replace L := L.varD (w.heap.size + 1) (by simp) false none 0 0 0
  have c00 := L.b0.c30
  have f00 := L.b0.fr 0
  have c01 := L.b0.c31
  have f01 := L.b0.fr 1
  have c02 := L.b0.c32
  have f02 := L.b0.fr 2
  (try go_wp2_with fail)
  clear c00 f00 c01 f01 c02 f02
  go_loopw [25] (fun i wr => ∃ (t : Nat) (s N K : Int) (A2 : Option Addr) (c2 : Nat), i = .int .i64 (t : Int) ∧ t ≤ n ∧ Lq w wr [(.slice A2 (zl N) c2, N.natAbs)] [] [] [(w.heap.size + 1, 26, #[.bool (ng N), .slice A2 (zl N) c2, .int .i64 K]), (w.heap.size, 28, #[.bool false, .slice none 0 0, .int .i64 0, .bool false, .slice none 0 0, .int .i64 0])] ∧ Hid (SmI cs 4850 t s T ∧ mkM s 0 = N ∧ mkE s 0 = K)) (fun i _ => n - (intOf i).toNat)
  case atStart =>
    have zz : zl 0 = 0 := len_zero
    have LN := L.n (v := .slice none 0 0) (x := 0) (IsN.zero _)
    refine ⟨0, 0, 0, 0, none, 0, by go_num, by omega, ?_, Lib.hid ⟨HS.out, nf00⟩⟩
    rw [zz]
    exact LN.subs (by simp) (by simp [ng])
  case round =>
    clear L HS
    obtain ⟨t, s, N, K, A2, c2, rfl, ht, L, HS⟩ := hrel
    rcases Nat.eq_or_lt_of_le ht with rfl | ht3
    · obtain ⟨hI, hN, hK⟩ := HS.out
      rw [show t = cs.length from HN.out.2.symm] at hI
      obtain rfl := hI.last
      have G3' := G3.out
      have G4' := G4.out
      rw [hN, hK] at G3' G4'
      have G8 := Lib.hid G3'
      have G9 := Lib.hid G4'
      clear G3' G4' hI hN hK HS G3 G4 HB HF HRW
      have hl1 := L.b0.lt
      have c00 := L.b0.c30
      have c01 := L.b0.c31
      have c02 := L.b0.c32
      (try go_wp2_with fail)
      refine (G1.out _ L.below).mono ?_
      rintro e w41 ⟨v1, rfl, id, be⟩
      clear c00 c01 c02
      replace L := L.step be
      clear be
      (try go_wp2_with fail)
      refine (G2.out _ _ id L.below).mono ?_
      rintro e w42 ⟨v2, rfl, iz, be⟩
      obtain ⟨A3, c3, rfl, _, in9⟩ := iz.form
      replace L := (L.step be).n in9
      clear be iz in9 id
      have hl3 := L.b0.lt
      replace L := L.varD w42.heap.size rfl (ng Mm) A3 (zl Mm) c3 Em
      have c00 := L.b0.c30
      have c01 := L.b0.c31
      have c02 := L.b0.c32
      have c10 := L.tl.b0.c30
      have c11 := L.tl.b0.c31
      have c12 := L.tl.b0.c32
      go_wp2_with fail
      clear c00 c01 c02 c10 c11 c12
      obtain ⟨gm, hgm⟩ : ∃ g9, w42.heap.size = g9 := ⟨_, rfl⟩
      rw [hgm] at L hl3 ⊢
      clear hgm
      refine (G8.out _ _ _ (isD_n (m := N) (e := K) (s := .slice A2 (zl N) c2) (L.getN (by simp))) (isD_n (m := Mm) (e := Em) (s := .slice A3 (zl Mm) c3) (L.getN (by simp))) L.below).mono ?_
      rintro e w43 ⟨v2, rfl, iz, be⟩
      obtain ⟨A4, c4, rfl, _, in9⟩ := iz.form
      replace L := (L.step be).n in9
      clear be iz in9
      have hl4 := L.b0.lt
      replace L := L.varD w43.heap.size rfl (ng Mc) A4 (zl Mc) c4 Ec
      have c00 := L.b0.c30
      have c01 := L.b0.c31
      have c02 := L.b0.c32
      have c10 := L.tl.b0.c30
      have c11 := L.tl.b0.c31
      have c12 := L.tl.b0.c32
      have c20 := L.tl.tl.b0.c30
      have c21 := L.tl.tl.b0.c31
      have c22 := L.tl.tl.b0.c32
      go_wp2_with fail
      clear c00 c01 c02 c10 c11 c12 c20 c21 c22
      obtain ⟨gl, hgl⟩ : ∃ g9, w43.heap.size = g9 := ⟨_, rfl⟩
      rw [hgl] at L hl4 ⊢
      clear hgl
      refine (G9.out _ _ _ (isD_n (m := N) (e := K) (s := .slice A2 (zl N) c2) (L.getN (by simp))) (isD_n (m := Mm) (e := Em) (s := .slice A3 (zl Mm) c3) (L.getN (by simp))) L.below).mono ?_
      rintro e w44 ⟨v2, rfl, iz, be⟩
      obtain ⟨A5, c5, rfl, _, in9⟩ := iz.form
      replace L := (L.step be).n in9
      clear be iz in9
      have hl5 := L.b0.lt
      replace L := L.varD w44.heap.size rfl (ng Nc) A5 (zl Nc) c5 Fc
      have c00 := L.b0.c30
      have c01 := L.b0.c31
      have c02 := L.b0.c32
      have c10 := L.tl.b0.c30
      have c11 := L.tl.b0.c31
      have c12 := L.tl.b0.c32
      go_wp2_with fail
      clear c00 c01 c02 c10 c11 c12
      obtain ⟨gh, hgh⟩ : ∃ g9, w44.heap.size = g9 := ⟨_, rfl⟩
      rw [hgh] at L hl5 ⊢
      clear hgh
      refine (G5.out _ _ (isD_n (m := Mc) (e := Ec) (s := .slice A4 (zl Mc) c4) (L.getN (by simp))) L.below).mono ?_
      rintro e w45 ⟨v2, rfl, iz, be⟩
      obtain ⟨A6, c6, rfl, _, in9⟩ := iz.form
      replace L := (L.step be).n in9
      clear be iz in9
      have L4 := L.subs (ns' := [(.slice A6 (zl Mb) c6, Mb.natAbs), (.slice A5 (zl Nc) c5, Nc.natAbs)]) (bs' := [(gl, 26, #[.bool (ng Mc), .slice A4 (zl Mc) c4, .int .i64 Ec]), (gh, 26, #[.bool (ng Nc), .slice A5 (zl Nc) c5, .int .i64 Fc]), (w.heap.size, 28, #[.bool false, .slice none 0 0, .int .i64 0, .bool false, .slice none 0 0, .int .i64 0])]) (by simp) (by simp)
      clear L
      have L := L4
      clear L4
      have n1 : gl ≠ gh := by omega
      have n2 : w.heap.size ≠ gh := by omega
      have n3 : w.heap.size ≠ gl := by omega
      have c00 := L.b0.c30
      have f00 := L.b0.fr 0
      have c01 := L.b0.c31
      have f01 := L.b0.fr 1
      have c02 := L.b0.c32
      have f02 := L.b0.fr 2
      have c10 := L.tl.b0.c30
      have c11 := L.tl.b0.c31
      have c12 := L.tl.b0.c32
      have P := L.putD (by omega) (by simp [n1, n2, n3, Ne.symm n1, Ne.symm n2, Ne.symm n3]) (ng Mb) A6 (zl Mb) c6 Eb
      have p0 := P.tl.b0.c30
      have p1 := P.tl.b0.c31
      have p2 := P.tl.b0.c32
      unfold put3 at p0 p1 p2 P
      go_wp2_with fail
      replace L := P
      clear P p0 p1 p2
      clear c00 f00 c01 f01 c02 f02 c10 c11 c12
      refine (G6.out _ _ (isD_n (m := Nc) (e := Fc) (s := .slice A5 (zl Nc) c5) (L.getN (by simp))) L.below).mono ?_
      rintro e w46 ⟨v2, rfl, iz, be⟩
      obtain ⟨A7, c7, rfl, _, in9⟩ := iz.form
      replace L := (L.step be).n in9
      clear be iz in9
      replace L := L.swap
      have c00 := L.b0.c30
      have f00 := L.b0.fr 0
      have c01 := L.b0.c31
      have f01 := L.b0.fr 1
      have c02 := L.b0.c32
      have f02 := L.b0.fr 2
      have c10 := L.tl.b0.c30
      have c11 := L.tl.b0.c31
      have c12 := L.tl.b0.c32
      have P := L.putD (by omega) (by simp [n1, n2, n3, Ne.symm n1, Ne.symm n2, Ne.symm n3]) (ng Nb) A7 (zl Nb) c7 Fb
      have p0 := P.tl.b0.c30
      have p1 := P.tl.b0.c31
      have p2 := P.tl.b0.c32
      have p3 := P.b0.c30
      have p4 := P.b0.c31
      have p5 := P.b0.c32
      unfold put3 at p0 p1 p2 p3 p4 p5 P
      go_wp2_with fail
      replace L := P
      clear P p0 p1 p2 p3 p4 p5
      clear c00 f00 c01 f01 c02 f02 c10 c11 c12
      refine (G7.out _ _ (isI_n (m := Mb) (e := Eb) (n := Nb) (f := Fb) (s := .slice A6 (zl Mb) c6) (t := .slice A7 (zl Nb) c7) (L.getN (by simp)) (L.getN (by simp))) L.below).mono ?_
      rintro e w47 ⟨v2, rfl, ii, be⟩
      obtain ⟨A8, c8, B8, d8, rfl, ia, ib⟩ := ii.form
      replace L := (((L.step be).n ib).n ia).pull2
      clear be ii ia ib
      have c00 := L.b0.c60
      have f00 := L.b0.fr 0
      have c01 := L.b0.c61
      have f01 := L.b0.fr 1
      have c02 := L.b0.c62
      have f02 := L.b0.fr 2
      have c03 := L.b0.c63
      have f03 := L.b0.fr 3
      have c04 := L.b0.c64
      have f04 := L.b0.fr 4
      have c05 := L.b0.c65
      have f05 := L.b0.fr 5
      go_wp2_with fail
      have LP := L.putI (by omega) (by simp [n2, n3, Ne.symm n2, Ne.symm n3]) (ng Ma) A8 (zl Ma) c8 Ea (ng Na) B8 (zl Na) d8 Fa
      have k0 := LP.b0.c60
      have k1 := LP.b0.c61
      have k2 := LP.b0.c62
      have k3 := LP.b0.c63
      have k4 := LP.b0.c64
      have k5 := LP.b0.c65
      unfold put6 at k0 k1 k2 k3 k4 k5
      exact bodyPost_ret (v := .tuple #[.agg #[.bool (ng Ma), .slice A8 (zl Ma) c8, .int .i64 Ea, .bool (ng Na), .slice B8 (zl Na) d8, .int .i64 Fa], .int .i64 0]) (by simp [results, Tryz.results68, go_sem, k0, k1, k2, k3, k4, k5]) rfl ⟨_, rfl, isI_n (LP.getN (by simp)) (LP.getN (by simp)), LP.below⟩
    · obtain ⟨x, hx⟩ : ∃ x, l[t]? = some x := ⟨_, List.getElem?_eq_getElem (by rw [HN.out.1]; exact ht3)⟩
      obtain ⟨cc, hcc⟩ : ∃ x, cs[t]? = some x := ⟨_, List.getElem?_eq_getElem (by rw [HN.out.2]; exact ht3)⟩
      obtain ⟨e0, e1, e2⟩ := HRW.out t x hx
      replace e0 := (L.below.cell (p := ⟨g, 3 * t, none⟩) hg).trans e0
      replace e1 := (L.below.cell (p := ⟨g, 3 * t + 1, none⟩) hg).trans e1
      replace e2 := (L.below.cell (p := ⟨g, 3 * t + 2, none⟩) hg).trans e2
      rw [Nat.mul_comm 3 t] at e0 e1 e2
      obtain ⟨hI, hN, hK⟩ := HS.out
      have hcb := HB.out _ (List.mem_of_getElem? hcc)
      have hI2 := hI.step hcc hcb
      have o1 := fun W hW => HF.out t x cc W hx hcc hW
      obtain ⟨a1, a2, a3⟩ := nf_add hI.1 (hcb.up (show 4850 ≤ 4850 + t by omega)) (by omega)
      obtain ⟨_, b2, b3, b4, _, _⟩ := nf hI.1 (by omega)
      obtain ⟨_, d2, d3, d4, _, _⟩ := nf hcb (by omega)
      have o2 := fun x y W h j (hW : Below w.heap.size w W) => dadd_any (mkM s 0) (mkE s 0) (mkM cc 0) (mkE cc 0) x y W h j (by omega) (by omega) (by omega) (by omega) (HT.out W hW)
      rw [a1, a2, a3] at o2
      clear a1 a2 a3 b2 b3 b4 d2 d3 d4 hcb hI hcc hx
      obtain ⟨s2, hs2⟩ : ∃ z, s + cc = z := ⟨_, rfl⟩
      rw [hs2] at o2 hI2
      rw [hN, hK] at o2
      obtain ⟨N2, hN2⟩ : ∃ z, mkM s2 0 = z := ⟨_, rfl⟩
      obtain ⟨K2, hK2⟩ : ∃ z, mkE s2 0 = z := ⟨_, rfl⟩
      rw [hN2, hK2] at o2
      generalize mkM cc 0 = Mx at *
      generalize mkE cc 0 = Ex at *
      have HR := Lib.hid (And.intro hI2 (And.intro hN2 hK2))
      have O1 := Lib.hid o1
      have O2 := Lib.hid o2
      obtain ⟨xa, xF, xn⟩ := x
      dsimp only at e0 e1 e2 O1
      have hlt : (t : Int) < (n : Int) := by omega
      have ht0 : (0 : Int) ≤ (t : Int) := by omega
      have w3 : IntKind.i64.wrap ((t : Int) + 1) = (t : Int) + 1 := by rw [IntKind.wrap_i64]; omega
      have hl1 := L.b0.lt
      have hsf := fun (a : Addr) (W : World) => run_store Tryz.prog W a (.func (.func xF) #[] #[]) .plain rfl
      clear o1 o2 hI2 hN2 hK2 hN hK hs2 HS
      replace L := L.varP wr.heap.size rfl xa xF xn
      have cel00 := L.b0.c30
      have cel01 := L.b0.c31
      have cel02 := L.b0.c32
      have cel10 := L.tl.b0.c30
      have cel11 := L.tl.b0.c31
      have cel12 := L.tl.b0.c32
      go_wp2_with fail
      clear cel00 cel01 cel02 cel10 cel11 cel12
      obtain ⟨gx, hgx⟩ : ∃ gx, wr.heap.size = gx := ⟨_, rfl⟩
      rw [hgx] at L hl1 ⊢
      clear hgx e0 e1 e2
      have n1 : w.heap.size + 1 ≠ gx := by omega
      have cel00 := L.b0.c30
      have cel01 := L.b0.c31
      have cel02 := L.b0.c32
      have cel10 := L.tl.b0.c30
      have cel11 := L.tl.b0.c31
      have cel12 := L.tl.b0.c32
      (try go_wp2_with fail)
      replace L := L.drew.swap
      clear cel00 cel01 cel02 cel10 cel11 cel12
      have cel00 := L.b0.c30
      have f00 := L.b0.fr 0
      have cel01 := L.b0.c31
      have f01 := L.b0.fr 1
      have cel02 := L.b0.c32
      have f02 := L.b0.fr 2
      have cel10 := L.tl.b0.c30
      have cel11 := L.tl.b0.c31
      have cel12 := L.tl.b0.c32
      go_region_with (first | (go_at_call 122; (with_reducible refine (O1.out _ ?_ ).mono ?_); (· exact L.below); rintro e9 wh ⟨vh, rfl, id, be⟩; obtain ⟨A4, c4, rfl, _, in9⟩ := id.form; replace L := (L.step be).n in9; clear be id in9; (try (have xx00 := L.b0.c30; have yy00 := L.b0.fr 0; have xx01 := L.b0.c31; have yy01 := L.b0.fr 1; have xx02 := L.b0.c32; have yy02 := L.b0.fr 2)); (try (have xx10 := L.tl.b0.c30; have xx11 := L.tl.b0.c31; have xx12 := L.tl.b0.c32))) | (go_at_call 44; (with_reducible refine (O2.out _ _ _ ?_ ?_ ?_ ).mono ?_); (· (refine isD_n (L.getN ?_); (repeat (first | (with_reducible exact List.mem_cons_self) | apply List.mem_cons_of_mem)))); (· (refine isD_n (L.getN ?_); (repeat (first | (with_reducible exact List.mem_cons_self) | apply List.mem_cons_of_mem)))); (· exact L.below); rintro e9 wh ⟨vh, rfl, id, be⟩; obtain ⟨A5, c5, rfl, _, in9⟩ := id.form; replace L := (L.step be).n in9; clear be id in9; (try (have xx00 := L.b0.c30; have yy00 := L.b0.fr 0; have xx01 := L.b0.c31; have yy01 := L.b0.fr 1; have xx02 := L.b0.c32; have yy02 := L.b0.fr 2)); (try (have xx10 := L.tl.b0.c30; have xx11 := L.tl.b0.c31; have xx12 := L.tl.b0.c32))))
      all_goals
        clear cel00 f00 cel01 f01 cel02 f02 cel10 cel11 cel12
        have P := L.putD (by omega) (by simp [n1, Ne.symm n1]) (ng N2) A5 (zl N2) c5 K2
        unfold put3 at P
        go_wp2_with fail
        replace L := P
        clear P
        go_roundw
        case rel => exact ⟨t + 1, s2, N2, K2, A5, c5, by go_num, by omega, L.subs (by simp) (by simp), HR⟩
        case measure => simp [intOf]; omega

/-- The program's sums, of the parts with their factors. -/
def pt1 (c : Int) (p : Nat → Int × Int) (v : Nat) : Option Int := match smP p 600 0 (2 ^ v) 0 with
  | none => none
  | some a => some (a * c)
def add2 : Option Int → Option Int → Option Int
  | some a, some b => some (a + b)
  | _, _ => none
def lnT (v : Nat) : Option Int := add2 (add2 (pt1 18 (tnP 26 (-1)) v) (pt1 (-2) (tnP 4801 (-1)) v)) (pt1 8 (tnP 8749 (-1)) v)
def cLn : Int := 2268941470734616186861435708167256132234041358636494052997072697895108538484637608683501933121951412824912851708240389810467206005511724841255000151707
theorem plainP3 (a0 : Int) (F0 : Nat) (n0 : Int) (a1 : Int) (F1 : Nat) (n1 : Int) (a2 : Int) (F2 : Nat) (n2 : Int) : Plain #[.int .i64 a0, .func (.func F0) #[] #[], .int .i64 n0, .int .i64 a1, .func (.func F1) #[] #[], .int .i64 n1, .int .i64 a2, .func (.func F2) #[] #[], .int .i64 n2] := fun j x => by
  match j with
  | 0 => simp
  | 1 => simp
  | 2 => simp
  | 3 => simp
  | 4 => simp
  | 5 => simp
  | 6 => simp
  | 7 => simp
  | 8 => simp
  | j + 9 => simp
theorem rowP_3 {w : World} {g : Nat} {a0 : Int} {F0 : Nat} {n0 : Int} {a1 : Int} {F1 : Nat} {n1 : Int} {a2 : Int} {F2 : Nat} {n2 : Int} (hv : Var w g 94 #[.int .i64 a0, .func (.func F0) #[] #[], .int .i64 n0, .int .i64 a1, .func (.func F1) #[] #[], .int .i64 n1, .int .i64 a2, .func (.func F2) #[] #[], .int .i64 n2]) : RowP w (.slice (some ⟨g, 0, none⟩) 3 3) [(a0, F0, n0), (a1, F1, n1), (a2, F2, n2)] := by
  refine ⟨g, 3, rfl, hv.lt, fun j x hx => ?_⟩
  match j with
  | 0 =>
    obtain rfl : (a0, F0, n0) = x := by simpa using hx
    exact ⟨hv.cell 0, hv.cell 1, hv.cell 2⟩
  | 1 =>
    obtain rfl : (a1, F1, n1) = x := by simpa using hx
    exact ⟨hv.cell 3, hv.cell 4, hv.cell 5⟩
  | 2 =>
    obtain rfl : (a2, F2, n2) = x := by simpa using hx
    exact ⟨hv.cell 6, hv.cell 7, hv.cell 8⟩
  | j + 3 => simp at hx
theorem pt1_some {c : Int} {p : Nat → Int × Int} {v : Nat} {T : Int} (h : pt1 c p v = some T) : ∃ S, smP p 600 0 (2 ^ v) 0 = some S ∧ T = S * c := by
  unfold pt1 at h
  split at h
  · cases h
  · next a ha => exact ⟨a, ha, (Option.some.inj h).symm⟩
theorem add2_some {x y : Option Int} {T : Int} (h : add2 x y = some T) : ∃ a b, x = some a ∧ y = some b ∧ T = a + b := by
  match x, y with
  | some a, some b => exact ⟨a, b, rfl, rfl, (Option.some.inj h).symm⟩
  | none, _ => cases h
  | some _, none => cases h
theorem pt_abs {c S : Int} {p : Nat → Int × Int} {v : Nat} (hg : GdP p) (hS : smP p 600 0 (2 ^ v) 0 = some S) (hc : AbP c 10) (hv : v ≤ 4200) : AbP (S * c) 4850 := ((smP_abs hg 600 0 _ _ _ (sp_first hS)).mul hc).up (by omega)

set_option maxHeartbeats 4000000 in
theorem cln_yes (k : Nat) (T : Int) (w : World) (hk : k ≤ 4150) (hT : Tab w) (hS : lnT (k + 32) = some T) :
    Calls Tryz.prog 24 #[.int .i64 (k : Int)] w (RetIE w (mkM (loC T) (-(k : Int))) (mkE (loC T) (-(k : Int))) (mkM (hiC T) (-(k : Int))) (mkE (hiC T) (-(k : Int))) 0) := by
  unfold lnT at hS
  obtain ⟨T9, T2, h9, h2, rfl⟩ := add2_some hS
  obtain ⟨T0, T1, h0, h1, rfl⟩ := add2_some h9
  obtain ⟨S0, hS0, r0⟩ := pt1_some h0
  obtain ⟨S1, hS1, r1⟩ := pt1_some h1
  obtain ⟨S2, hS2, r2⟩ := pt1_some h2
  subst r0 r1 r2
  have hen0 : ∀ args w, (callFunc 69 args).run Tryz.prog w = .ok (.enter 69 args) w := enters_of Tryz.func69 (by kernel_rfl) rfl
  have G0 : GdP (tnP 26 (-1)) := tnP_good (by simp)
  have a0 : AbP (18) 10 := by unfold AbP; decide
  have u0 := fun W (hW : Below w.heap.size w W) => csum_any 69 hen0 (tnP 26 (-1)) 26 (18) S0 (k + 32) W G0 hS0 a0 (by omega) (hT.mono hW) (fun j W hj => carea_any 26 j W (by omega) (by omega) hj)
  have b0 := pt_abs G0 hS0 a0 (by omega)
  have hen1 : ∀ args w, (callFunc 69 args).run Tryz.prog w = .ok (.enter 69 args) w := enters_of Tryz.func69 (by kernel_rfl) rfl
  have G1 : GdP (tnP 4801 (-1)) := tnP_good (by simp)
  have a1 : AbP (-2) 10 := by unfold AbP; decide
  have u1 := fun W (hW : Below w.heap.size w W) => csum_any 69 hen1 (tnP 4801 (-1)) 4801 (-2) S1 (k + 32) W G1 hS1 a1 (by omega) (hT.mono hW) (fun j W hj => carea_any 4801 j W (by omega) (by omega) hj)
  have b1 := pt_abs G1 hS1 a1 (by omega)
  have hen2 : ∀ args w, (callFunc 69 args).run Tryz.prog w = .ok (.enter 69 args) w := enters_of Tryz.func69 (by kernel_rfl) rfl
  have G2 : GdP (tnP 8749 (-1)) := tnP_good (by simp)
  have a2 : AbP (8) 10 := by unfold AbP; decide
  have u2 := fun W (hW : Below w.heap.size w W) => csum_any 69 hen2 (tnP 8749 (-1)) 8749 (8) S2 (k + 32) W G2 hS2 a2 (by omega) (hT.mono hW) (fun j W hj => carea_any 8749 j W (by omega) (by omega) hj)
  have b2 := pt_abs G2 hS2 a2 (by omega)
  have g1 := fun v W (hl : RowP W v [((18 : Int), 69, (26 : Int)), ((-2 : Int), 69, (4801 : Int)), ((8 : Int), 69, (8749 : Int))]) (hW : Below w.heap.size w W) => cencl_yes k [((18 : Int), 69, (26 : Int)), ((-2 : Int), 69, (4801 : Int)), ((8 : Int), 69, (8749 : Int))] [S0 * (18), S1 * (-2), S2 * (8)] (S0 * (18) + S1 * (-2) + S2 * (8)) v W hk hl rfl (by simp) (hT.mono hW) (fun c hc => by
    simp only [List.mem_cons, List.not_mem_nil, or_false] at hc
    rcases hc with rfl | rfl | rfl <;> assumption) (by unfold ttl; unfold ttl; unfold ttl; unfold ttl; rw [Int.zero_add]) (fun j x c W2 hx hc hW2 => by
    have hW3 := hW.trans (hW2.mono hW.size)
    match j with
    | 0 =>
      obtain rfl : ((18 : Int), 69, (26 : Int)) = x := by simpa using hx
      obtain rfl : S0 * (18) = c := by simpa using hc
      exact u0 W2 hW3
    | 1 =>
      obtain rfl : ((-2 : Int), 69, (4801 : Int)) = x := by simpa using hx
      obtain rfl : S1 * (-2) = c := by simpa using hc
      exact u1 W2 hW3
    | 2 =>
      obtain rfl : ((8 : Int), 69, (8749 : Int)) = x := by simpa using hx
      obtain rfl : S2 * (8) = c := by simpa using hc
      exact u2 W2 hW3
    | j + 3 => simp at hx)
  generalize S0 * (18) + S1 * (-2) + S2 * (8) = T at *
  clear hen0 G0 a0 u0 b0 hS0 hen1 G1 a1 u1 b1 hS1 hen2 G2 a2 u2 b2 hS2 hS h0 h1 h2 h9
  generalize mkM (loC T) (-(k : Int)) = Ma at *
  generalize mkE (loC T) (-(k : Int)) = Ea at *
  generalize mkM (hiC T) (-(k : Int)) = Na at *
  generalize mkE (hiC T) (-(k : Int)) = Fa at *
  have H1 := Lib.hid g1
  clear g1
  go_enter Tryz.func24, Tryz.ntmps24
  have L := ((Lq.mk0 w).varI (w.heap.size) (by simp) false none 0 0 0 false none 0 0 0)
  replace L := L.var (w.heap.size + 1) (by simp) 94 #[.int .i64 (18), .func (.func 69) #[] #[], .int .i64 26, .int .i64 (-2), .func (.func 69) #[] #[], .int .i64 4801, .int .i64 (8), .func (.func 69) #[] #[], .int .i64 8749] (plainP3 _ _ _ _ _ _ _ _ _ )
  have p0 := L.b0.cell 0
  have p1 := L.b0.cell 1
  have p2 := L.b0.cell 2
  have p3 := L.b0.cell 3
  have p4 := L.b0.cell 4
  have p5 := L.b0.cell 5
  have p6 := L.b0.cell 6
  have p7 := L.b0.cell 7
  have p8 := L.b0.cell 8
  (try go_wp2_with fail)
  clear p0 p1 p2 p3 p4 p5 p6 p7 p8
  refine (H1.out _ _ (rowP_3 L.b0) L.below).mono ?_
  rintro e w1 ⟨v2, rfl, ii, be⟩
  obtain ⟨A8, c8, B8, d8, rfl, ia, ib⟩ := ii.form
  replace L := (((L.step be).n ib).n ia).swap
  clear be ii ia ib
  have c00 := L.b0.c60
  have f00 := L.b0.fr 0
  have c01 := L.b0.c61
  have f01 := L.b0.fr 1
  have c02 := L.b0.c62
  have f02 := L.b0.fr 2
  have c03 := L.b0.c63
  have f03 := L.b0.fr 3
  have c04 := L.b0.c64
  have f04 := L.b0.fr 4
  have c05 := L.b0.c65
  have f05 := L.b0.fr 5
  go_wp2_with fail
  have LP := L.putI (by omega) (by first | (simp; done) | (simp; omega)) (ng Ma) A8 (zl Ma) c8 Ea (ng Na) B8 (zl Na) d8 Fa
  have k0 := LP.b0.c60
  have k1 := LP.b0.c61
  have k2 := LP.b0.c62
  have k3 := LP.b0.c63
  have k4 := LP.b0.c64
  have k5 := LP.b0.c65
  unfold put6 at k0 k1 k2 k3 k4 k5
  exact bodyPost_ret (v := .tuple #[.agg #[.bool (ng Ma), .slice A8 (zl Ma) c8, .int .i64 Ea, .bool (ng Na), .slice B8 (zl Na) d8, .int .i64 Fa], .int .i64 0]) (by simp [results, Tryz.results24, go_sem, k0, k1, k2, k3, k4, k5]) rfl ⟨_, rfl, isI_n (LP.getN (by simp)) (LP.getN (by simp)), LP.below⟩

def inM (c : Int) (k : Nat) : Option Int → Bool
  | none => false
  | some T => decide (loC T * 2 ^ (500 - k) + 1048576 ≤ c) && decide (c + 1048576 ≤ hiC T * 2 ^ (500 - k))
theorem lnm_all : (List.range 200).all (fun k => inM cLn k (lnT (k + 32))) = true := by decide +kernel
/-- The logarithm of 2. -/
theorem ln_up : UpE (dq (cLn - 1048576) (-500)) 2 := (exp_up 104 (by decide +kernel)).up (by decide +kernel)
theorem ln_lo : LoE 2 (dq (cLn + 1048576) (-500)) := (exp_lo 104 _).down (by decide +kernel)

/-- A constant's interval, in units of 2^-k, around the constant with a margin. -/
structure Cn (T c : Int) (k : Nat) : Prop where
  al : AbP (loC T) (k + 3)
  ah : AbP (hiC T) (k + 3)
  lo : dq (loC T) (-(k : Int)) ≤ dq (c - 1048576) (-500)
  hi : dq (c + 1048576) (-500) ≤ dq (hiC T) (-(k : Int))
  wd : hiC T ≤ loC T + 2
theorem dq_up9 (C : Int) {k F : Nat} (h : k ≤ F) : dq C (-(k : Int)) = dq (C * 2 ^ (F - k)) (-(F : Int)) := by
  refine dq_eq (F := -(F : Int)) ?_ (by omega) (by omega)
  rw [show (-(k : Int) - -(F : Int)).toNat = F - k by omega, show (-(F : Int) - -(F : Int)).toNat = 0 by omega]
  simp
theorem cn_of {c : Int} {k : Nat} {o : Option Int} (hk : k < 200) (hc : 1048576 ≤ c ∧ c < 2 ^ 502) (h : inM c k o = true) : ∃ T, o = some T ∧ Cn T c k := by
  match o with
  | none => cases h
  | some T =>
    unfold inM at h
    rw [Bool.and_eq_true] at h
    have h1 := of_decide_eq_true h.1
    have h2 := of_decide_eq_true h.2
    have hw : hiC T ≤ loC T + 2 := by
      unfold hiC loC
      rw [cdv_le (by omega)]
      have := Int.lt_ediv_add_one_mul_self (T - 262144) (show (0 : Int) < 4294967296 by omega)
      omega
    have hp := pow2_pos (500 - k)
    have e5 : (2 : Int) ^ 502 = 2 ^ (k + 2) * 2 ^ (500 - k) := by rw [← Int.pow_add]; congr 1; omega
    have b1 : loC T < 2 ^ (k + 2) := by
      refine Int.lt_of_mul_lt_mul_right (a := 2 ^ (500 - k)) ?_ (by omega)
      rw [← e5]
      omega
    have b2 : 0 ≤ hiC T := by
      refine Int.not_lt.1 fun h9 => ?_
      have := Int.mul_neg_of_neg_of_pos h9 hp
      omega
    have b3 : -2 ≤ loC T := by omega
    have e6 : (2 : Int) ^ (k + 3) = 2 ^ (k + 2) * 2 := by rw [← Int.pow_succ]
    have b4 : (4 : Int) ≤ 2 ^ (k + 2) := by
      have := pow2_pos k
      rw [Int.pow_succ, Int.pow_succ]
      omega
    have eP : (((2 : Nat) ^ (k + 3) : Nat) : Int) = 2 ^ (k + 3) := by simp
    refine ⟨T, rfl, ?_, ?_, ?_, ?_, hw⟩
    · unfold AbP; omega
    · unfold AbP; omega
    · rw [dq_up9 _ (show k ≤ 500 by omega)]
      exact (dq_le_iff _ _ _).2 (by omega)
    · rw [dq_up9 (hiC T) (show k ≤ 500 by omega)]
      exact (dq_le_iff _ _ _).2 h2
theorem cn_ln {k : Nat} (hk : k < 200) : ∃ T, lnT (k + 32) = some T ∧ Cn T cLn k :=
  cn_of hk ⟨by decide +kernel, by decide +kernel⟩ (List.all_eq_true.1 lnm_all k (List.mem_range.2 hk))
/-- The number itself lies in the interval, too. -/
theorem Cn.mid {T c : Int} {k : Nat} (h : Cn T c k) : dq (loC T) (-(k : Int)) ≤ dq c (-500) ∧ dq c (-500) ≤ dq (hiC T) (-(k : Int)) :=
  ⟨Rat.le_trans h.lo ((dq_le_iff _ _ _).2 (by omega)), Rat.le_trans ((dq_le_iff _ _ _).2 (by omega)) h.hi⟩

theorem abs_floor (y : Int) {n : Int} (hn : 0 < n) : (y / n).natAbs ≤ y.natAbs := by
  rcases Int.lt_or_le y 0 with h | h
  · have h1 : y / n < 0 := Int.ediv_neg_of_neg_of_pos h hn
    have h2 : y ≤ y / n := by
      rw [Int.le_ediv_iff_mul_le hn]
      have := Int.mul_le_mul_of_nonneg_left (show (1 : Int) ≤ n by omega) (show 0 ≤ -y by omega)
      rw [Int.mul_one, Int.neg_mul] at this
      omega
    omega
  · have h1 := Int.ediv_nonneg h (show 0 ≤ n by omega)
    have h2 := Int.ediv_le_self n h
    omega
/-- A slice of integers: what its elements stand for. -/
def RowZ (w : World) (v : Value) (l : List Int) : Prop := ∃ g c, v = .slice (some ⟨g, 0, none⟩) l.length c ∧ g < w.heap.size ∧ ∀ (j : Nat) (p : Int), l[j]? = some p → ∃ A c, w.cell? ⟨g, 2 * j, none⟩ = some (.bool (ng p)) ∧ w.cell? ⟨g, 2 * j + 1, none⟩ = some (.slice A (zl p) c) ∧ IsZ w (.agg #[.bool (ng p), .slice A (zl p) c]) p
theorem RowZ.mono {w w' : World} {v : Value} {l : List Int} (h : RowZ w v l) (hb : Below w.heap.size w w') : RowZ w' v l := by
  obtain ⟨g, c, r, hg, h⟩ := h
  refine ⟨g, c, r, Nat.lt_of_lt_of_le hg hb.size, fun j p hp => ?_⟩
  obtain ⟨A, c, h1, h2, h3⟩ := h j p hp
  exact ⟨A, c, (hb.cell (p := ⟨g, 2 * j, none⟩) hg).trans h1, (hb.cell (p := ⟨g, 2 * j + 1, none⟩) hg).trans h2, h3.mono hb⟩
def LoopZ (l : List Int) (t : Nat) (a1 a2 : Int) : Prop := a1 ∈ l ∧ a2 ∈ l ∧ ∀ (j : Nat) (p : Int), j < t → l[j]? = some p → a1 ≤ p ∧ p ≤ a2
theorem LoopZ.step {l : List Int} {t : Nat} {a1 a2 a b1 b2 : Int} (h : LoopZ l t a1 a2) (hp : l[t]? = some a) (m1 : b1 ∈ l) (m2 : b2 ∈ l) (x1 : b1 ≤ a1) (x2 : b1 ≤ a) (y1 : a2 ≤ b2) (y2 : a ≤ b2) : LoopZ l (t + 1) b1 b2 := by
  refine ⟨m1, m2, fun j p hj hjp => ?_⟩
  rcases Nat.lt_or_ge j t with h1 | h1
  · have := h.2.2 j p h1 hjp
    exact ⟨Int.le_trans x1 this.1, Int.le_trans this.2 y1⟩
  · obtain rfl : j = t := by omega
    rw [hp] at hjp
    obtain rfl := Option.some.inj hjp
    exact ⟨x2, y2⟩
theorem LoopZ.all {l : List Int} {a1 a2 : Int} {n : Nat} (hn : l.length = n) (h : LoopZ l n a1 a2) : (∀ q ∈ l, a1 ≤ q) ∧ ∀ q ∈ l, q ≤ a2 := by
  constructor <;> intro q hq <;> obtain ⟨j, hj, e⟩ := List.getElem_of_mem hq
  · exact (h.2.2 j q (by omega) (by rw [← e]; exact List.getElem?_eq_getElem hj)).1
  · exact (h.2.2 j q (by omega) (by rw [← e]; exact List.getElem?_eq_getElem hj)).2
theorem AbP.fl {x n : Int} {j : Nat} (h : AbP x j) (hn : 0 < n) : AbP (x / n) j := Nat.le_trans (abs_floor x hn) h
theorem AbP.cd {x n : Int} {j : Nat} (h : AbP x j) (hn : 0 < n) : AbP (cdv x n) j := (h.neg.fl hn).neg
theorem AbP.mn4 {a b c d : Int} {j : Nat} (h1 : AbP a j) (h2 : AbP b j) (h3 : AbP c j) (h4 : AbP d j) : AbP (mn4 a b c d) j := by
  unfold AbP Go.Proofs.YtmlddkiccjpoeaaGreatDoor.mn4 at *
  omega
theorem AbP.mx4 {a b c d : Int} {j : Nat} (h1 : AbP a j) (h2 : AbP b j) (h3 : AbP c j) (h4 : AbP d j) : AbP (mx4 a b c d) j := by
  unfold AbP Go.Proofs.YtmlddkiccjpoeaaGreatDoor.mx4 at *
  omega
theorem AbP.shr {x : Int} {j v : Nat} (h : AbP x (j + v)) : AbP (x / 2 ^ v) j := by
  unfold AbP at *
  have hp := pow2_pos v
  rw [Nat.pow_add] at h
  have e : (((2 : Nat) ^ v : Nat) : Int) = 2 ^ v := by simp
  obtain ⟨Q, hQ⟩ : ∃ Q : Nat, 2 ^ j = Q := ⟨_, rfl⟩
  obtain ⟨P, hP⟩ : ∃ P : Nat, 2 ^ v = P := ⟨_, rfl⟩
  rw [hQ, hP] at h
  rw [hQ]
  rw [hP] at e
  rw [← e] at hp ⊢
  have h2 : ((x.natAbs : Nat) : Int) ≤ (Q : Int) * (P : Int) := by exact_mod_cast h
  have h3 : x / (P : Int) ≤ (Q : Int) := Int.ediv_le_of_le_mul hp (by omega)
  have h4 : -(Q : Int) ≤ x / (P : Int) := (Int.le_ediv_iff_mul_le hp).2 (by rw [Int.neg_mul]; omega)
  omega
theorem AbP.cshr {x : Int} {j v : Nat} (h : AbP x (j + v)) : AbP (cdv x (2 ^ v)) j := by
  have := (AbP.shr (x := -x) h.neg).neg
  exact this
/-- A round of the series: the number of rounds t, the fuel f, the term's span (a, b), the sum's span (p, q). -/
structure ExS (v f t : Nat) (y : Rat) (a b p q : Int) : Prop where
  tf : t + f = v
  tm : SpC a b v (tm t y)
  sm : SpC p q v (esm (t + 1) y)
  aa : AbP a f
  bb : AbP b f
  pp : p.natAbs + 2 ^ f ≤ 2 ^ (v + 1)
  qq : q.natAbs + 2 ^ f ≤ 2 ^ (v + 1)
theorem ExS.first (v : Nat) (y : Rat) : ExS v v 0 y (2 ^ v) (2 ^ v) (2 ^ v) (2 ^ v) := by
  have h := SpC.of 1 v
  rw [Int.one_mul, show ((1 : Int) : Rat) = 1 from rfl] at h
  have e : ((2 : Int) ^ v).natAbs = 2 ^ v := by rw [Int.natAbs_pow]; rfl
  have h2 : ((2 : Int) ^ v).natAbs + 2 ^ v ≤ 2 ^ (v + 1) := by rw [e, Nat.pow_succ]; omega
  refine ⟨by omega, h, ?_, Nat.le_of_eq e, Nat.le_of_eq e, h2, h2⟩
  rwa [show esm (0 + 1) y = 1 from by show (0 : Rat) + 1 = 1; grind]
theorem ExS.step {v f t : Nat} {y : Rat} {a b p q c d A B : Int} (h : ExS v f t y a b p q) (hy : SpC c d v y) (hc : AbP c (v - 1)) (hd : AbP d (v - 1)) (ht : tnB a b = false)
    (eA : mn4 (a * c) (a * d) (b * c) (b * d) / 2 ^ v = A) (eB : cdv (mx4 (a * c) (a * d) (b * c) (b * d)) (2 ^ v) = B) :
    ∃ g, f = g + 1 ∧ AbP A g ∧ AbP B g ∧ ExS v g (t + 1) y (A / ((t + 1 : Nat) : Int)) (cdv B ((t + 1 : Nat) : Int)) (p + A / ((t + 1 : Nat) : Int)) (q + cdv B ((t + 1 : Nat) : Int)) := by
  have hf : 0 < f := by
    rcases Nat.eq_zero_or_pos f with rfl | h0
    · have h1 := h.aa
      have h2 := h.bb
      unfold AbP at h1 h2
      rw [Nat.pow_zero] at h1 h2
      unfold tnB at ht
      rw [decide_eq_true h1, decide_eq_true h2] at ht
      cases ht
    · exact h0
  obtain ⟨g, rfl⟩ : ∃ g, f = g + 1 := ⟨f - 1, by omega⟩
  have tf := h.tf
  have hm : ∀ x z : Int, AbP x (g + 1) → AbP z (v - 1) → AbP (x * z) (g + v) := fun x z h1 h2 => by
    have := h1.mul h2
    rwa [show g + 1 + (v - 1) = g + v by omega] at this
  have m1 := hm a c h.aa hc
  have m2 := hm a d h.aa hd
  have m3 := hm b c h.bb hc
  have m4 := hm b d h.bb hd
  have hA : AbP A g := by rw [← eA]; exact (AbP.mn4 m1 m2 m3 m4).shr
  have hB : AbP B g := by rw [← eB]; exact (AbP.mx4 m1 m2 m3 m4).cshr
  have n0 : (0 : Int) < ((t + 1 : Nat) : Int) := by omega
  have sp : SpC A B v (Go.Proofs.YtmlddkiccjpoeaaGreatDoor.tm t y * y) := by rw [← eA, ← eB]; exact h.tm.mul hy
  have so := sp.over n0
  rw [show Go.Proofs.YtmlddkiccjpoeaaGreatDoor.tm t y * y / (((t + 1 : Nat) : Int) : Rat) = Go.Proofs.YtmlddkiccjpoeaaGreatDoor.tm (t + 1) y from by
    show _ = Go.Proofs.YtmlddkiccjpoeaaGreatDoor.tm t y * y / ((t : Rat) + 1)
    rw [show (((t + 1 : Nat) : Int) : Rat) = (t : Rat) + 1 from by rw [Rat.intCast_natCast, Rat.natCast_add]; rfl]] at so
  have hA2 := hA.fl n0
  have hB2 := hB.cd n0
  refine ⟨g, rfl, hA, hB, by omega, so, h.sm.add so, hA2, hB2, ?_, ?_⟩
  · have h1 := h.pp
    unfold AbP at hA2
    rw [Nat.pow_succ] at h1
    omega
  · have h1 := h.qq
    unfold AbP at hB2
    rw [Nat.pow_succ] at h1
    omega
theorem ExS.last {v f t : Nat} {y : Rat} {a b p q : Int} (h : ExS v f t y a b p q) (ht : tnB a b = true) (hy : 8 * rab y ≤ 1) : RSp (p - 3) (q + 3) v y := by
  refine RSp.series h.sm hy ?_
  unfold tnB at ht
  rw [Bool.and_eq_true, decide_eq_true_iff, decide_eq_true_iff] at ht
  have h1 := (dq_le_iff (-1) a (-(v : Int))).2 (by omega)
  have h2 := (dq_le_iff b 1 (-(v : Int))).2 (by omega)
  rw [dq_neg] at h1
  obtain ⟨h3, h4⟩ := h.tm
  unfold rab
  split
  · grind
  · rw [tm_neg]
    rcases sgk_or t with e | e <;> rw [e] <;> grind
/-- The bits of the ends behind i squares. -/
def sqbits (v i : Nat) : Nat := v + (3 * 2 ^ i - 1)
theorem ExS.ends {v f t : Nat} {y : Rat} {a b p q : Int} (h : ExS v f t y a b p q) (hv : 1 ≤ v) : AbP (p - 3) (sqbits v 0) ∧ AbP (q + 3) (sqbits v 0) := by
  have e : sqbits v 0 = v + 1 + 1 := rfl
  have h1 := h.pp
  have h2 := h.qq
  have h3 : 2 ≤ 2 ^ v := Nat.pow_le_pow_right (n := 2) (i := 1) (by omega) hv
  have h4 := Nat.pow_pos (n := f) (show 0 < 2 by omega)
  unfold AbP
  rw [e, Nat.pow_succ, Nat.pow_succ]
  rw [Nat.pow_succ] at h1 h2
  omega
/-- A round of the squares. -/
structure ExD (v i : Nat) (y : Rat) (a b : Int) : Prop where
  rs : RSp a b v ((((2 : Nat) ^ i : Nat) : Rat) * y)
  aa : AbP a (sqbits v i)
  bb : AbP b (sqbits v i)
theorem ExD.first {v : Nat} {y : Rat} {a b : Int} (h : RSp a b v y) (ha : AbP a (sqbits v 0)) (hb : AbP b (sqbits v 0)) : ExD v 0 y a b :=
  ⟨by rwa [show (((2 : Nat) ^ 0 : Nat) : Rat) * y = y from by rw [Nat.pow_zero]; exact Rat.one_mul y], ha, hb⟩
theorem ExD.step {v i : Nat} {y : Rat} {a b A B : Int} (h : ExD v i y a b) (eA : mn4 (a * a) (a * b) (b * a) (b * b) / 2 ^ v = A) (eB : cdv (mx4 (a * a) (a * b) (b * a) (b * b)) (2 ^ v) = B) : ExD v (i + 1) y A B := by
  have e : sqbits v i + sqbits v i = sqbits v (i + 1) - 1 + v := by
    unfold sqbits
    have := Nat.pow_pos (n := i) (show 0 < 2 by omega)
    rw [Nat.pow_succ]
    omega
  have e2 : sqbits v (i + 1) - 1 ≤ sqbits v (i + 1) := by omega
  have hm : ∀ x z : Int, AbP x (sqbits v i) → AbP z (sqbits v i) → AbP (x * z) (sqbits v (i + 1) - 1 + v) := fun x z h1 h2 => by
    have := h1.mul h2
    rwa [e] at this
  have m1 := hm a a h.aa h.aa
  have m2 := hm a b h.aa h.bb
  have m3 := hm b a h.bb h.aa
  have m4 := hm b b h.bb h.bb
  have r := h.rs.sq
  rw [eA, eB, ← Rat.mul_assoc, show (2 : Rat) * (((2 : Nat) ^ i : Nat) : Rat) = (((2 : Nat) ^ (i + 1) : Nat) : Rat) from by
    rw [Nat.pow_succ, Rat.natCast_mul, Rat.mul_comm]; rfl] at r
  exact ⟨r, by rw [← eA]; exact (AbP.mn4 m1 m2 m3 m4).shr.up e2, by rw [← eB]; exact (AbP.mx4 m1 m2 m3 m4).cshr.up e2⟩
theorem RSp.out {a b : Int} {v k j : Nat} {x : Rat} (h : RSp a b v x) (hj : v = k + j) : LoE (dq (a / 2 ^ j) (-(k : Int))) x ∧ UpE x (dq (cdv b (2 ^ j)) (-(k : Int))) := by
  have hp := pow2_pos j
  have e : dq 1 (-(k : Int)) = dq 1 (-(v : Int)) * (((2 : Int) ^ j : Int) : Rat) := by
    have h1 := two_cast v
    have h2 := two_cast k
    rw [hj, Int.pow_add, Rat.intCast_mul] at h1
    rw [← hj] at h1
    have h3 := dq_pos (-(k : Int))
    grind
  have e2 : ∀ X : Int, dq X (-(k : Int)) = dq X (-(v : Int)) * (((2 : Int) ^ j : Int) : Rat) := fun X => by
    rw [dq_scale X, dq_scale X (-(v : Int)), e]; grind
  refine ⟨h.1.down ?_, h.2.up ?_⟩
  · rw [e2]; exact fdiv_le hp _
  · rw [e2]; exact le_cdiv hp _
/-- One term from the other: 512 times less, and at most one more. -/
theorem st_512 {p : Nat → Int × Int} {k : Nat} {t : Int} (h : (p k).1.natAbs * 512 ≤ (p k).2.natAbs) (h0 : 0 < (p k).2) : (stP p k t).natAbs ≤ t.natAbs / 512 + 1 := by
  unfold stP
  generalize (p k).1 = a at *
  generalize (p k).2 = b at *
  have x1 : (t * a).natAbs * 512 ≤ t.natAbs * b.natAbs := by
    rw [Int.natAbs_mul, Nat.mul_assoc]
    exact Nat.mul_le_mul_left _ h
  obtain ⟨B, rfl⟩ : ∃ B : Nat, b = (B : Int) := ⟨b.toNat, by omega⟩
  rw [Int.natAbs_natCast] at x1
  have hB : 0 < B := by omega
  generalize t * a = x at *
  generalize t.natAbs = T at *
  have y1 := Int.ediv_mul_le x (show (B : Int) ≠ 0 by omega)
  have y2 := Int.lt_ediv_add_one_mul_self x (show (0 : Int) < (B : Int) by omega)
  generalize x / (B : Int) = q at *
  -- |q| - 1 <= T / 512
  have key : ∀ r : Nat, (r : Int) * B ≤ x.natAbs → r ≤ T / 512 := fun r hr => by
    have h1 : r * B * 512 ≤ T * B := by
      have : ((r * B : Nat) : Int) ≤ x.natAbs := by push_cast; exact hr
      omega
    have h2 : r * 512 ≤ T := by
      rw [Nat.mul_right_comm] at h1
      exact Nat.le_of_mul_le_mul_right h1 hB
    omega
  rcases Int.lt_or_le q 0 with hq | hq
  · have h1 := key (-(q + 1)).toNat (by
      have e : (((-(q + 1)).toNat : Nat) : Int) = -(q + 1) := by omega
      rw [e, Int.neg_mul]
      omega)
    omega
  · have h1 := key q.toNat (by
      have e : ((q.toNat : Nat) : Int) = q := by omega
      rw [e]
      omega)
    omega
/-- The terms end: small ones within three rounds. -/
theorem sm_small {p : Nat → Int × Int} (hp : ∀ k, 1 ≤ k → (p k).1.natAbs * 512 ≤ (p k).2.natAbs ∧ 0 < (p k).2 ∧ (p k).1 ≤ 0) {f k : Nat} {t s : Int} (hk : 1 ≤ k) (ht : t.natAbs < 512) : ∃ S, smP p (f + 3) k t s = some S := by
  have z : ∀ (j : Nat) (y : Int), 1 ≤ j → y ≤ 0 → y.natAbs < 512 → stP p j y = 0 := fun j y hj hy hy2 => by
    obtain ⟨a1, a2, a3⟩ := hp j hj
    unfold stP
    have x0 : 0 ≤ y * (p j).1 := Int.mul_nonneg_of_nonpos_of_nonpos hy a3
    have x1 : (y * (p j).1).natAbs * 512 ≤ y.natAbs * (p j).2.natAbs := by
      rw [Int.natAbs_mul, Nat.mul_assoc]
      exact Nat.mul_le_mul_left _ a1
    have x2 : y.natAbs * (p j).2.natAbs ≤ 511 * (p j).2.natAbs := Nat.mul_le_mul_right _ (by omega)
    exact Int.ediv_eq_zero_of_lt x0 (by omega)
  rw [smP]
  split
  · exact ⟨_, rfl⟩
  · rename_i h1
    have b1 := st_512 (t := t) (hp k hk).1 (hp k hk).2.1
    have hneg : stP p k t ≤ 0 := by
      rcases Int.le_total t 0 with h | h
      · have := z k t hk h ht
        omega
      · obtain ⟨a1, a2, a3⟩ := hp k hk
        unfold stP
        have x0 : t * (p k).1 ≤ 0 := Int.mul_nonpos_of_nonneg_of_nonpos h a3
        exact Int.ediv_nonpos_of_nonpos_of_neg x0 a2
    rw [smP, if_pos (z (k + 1) _ (by omega) hneg (by omega))]
    exact ⟨_, rfl⟩
theorem sm_some {p : Nat → Int × Int} (hp : ∀ k, 1 ≤ k → (p k).1.natAbs * 512 ≤ (p k).2.natAbs ∧ 0 < (p k).2 ∧ (p k).1 ≤ 0) : ∀ (j f k : Nat) (t s : Int), 1 ≤ k → t.natAbs < 2 ^ (9 + 8 * j) → ∃ S, smP p (f + 3 + j) k t s = some S
  | 0, f, k, t, s, hk, ht => sm_small hp hk (by simpa using ht)
  | j + 1, f, k, t, s, hk, ht => by
    rcases Nat.lt_or_ge t.natAbs 512 with h | h
    · have := sm_small (f := f + (j + 1)) (s := s) hp hk h
      rw [show f + (j + 1) + 3 = f + 3 + (j + 1) by omega] at this
      exact this
    · rw [show f + 3 + (j + 1) = f + 3 + j + 1 by omega, smP]
      split
      · exact ⟨_, rfl⟩
      · have b1 := st_512 (t := t) (hp k hk).1 (hp k hk).2.1
        refine sm_some hp j f (k + 1) _ _ (by omega) ?_
        have e1 : 2 ^ (9 + 8 * (j + 1)) = 2 ^ (9 + 8 * j) * 256 := by rw [show 9 + 8 * (j + 1) = 9 + 8 * j + 8 by omega, Nat.pow_add]
        have e2 : 2 ^ (9 + 8 * j) = 512 * 2 ^ (8 * j) := by rw [Nat.pow_add]
        have e3 : 0 < 2 ^ (8 * j) := Nat.pow_pos (by omega)
        omega
theorem tn_some {n : Int} (h : n = 26 ∨ n = 4801 ∨ n = 8749) {v : Nat} (hv : v ≤ 4200) : ∃ S, smP (tnP n (-1)) 600 0 (2 ^ v) 0 = some S := by
  have hg : GdP (tnP n (-1)) := tnP_good (by rcases h with h | h | h <;> subst h <;> simp)
  have hp : ∀ k, 1 ≤ k → (tnP n (-1) k).1.natAbs * 512 ≤ (tnP n (-1) k).2.natAbs ∧ 0 < (tnP n (-1) k).2 ∧ (tnP n (-1) k).1 ≤ 0 := fun k hk => by
    unfold tnP
    rw [if_neg (by omega)]
    rcases h with h | h | h <;> subst h <;> simp only <;> omega
  rw [show 600 = 599 + 1 by rfl, smP]
  split
  · exact ⟨_, rfl⟩
  · have hb := st_abs (k := 0) hg (by omega) ((tm_one v).abs.1)
    obtain ⟨J, hJ⟩ : ∃ J : Nat, J = 525 := ⟨_, rfl⟩
    have := sm_some hp J 71 1 (stP (tnP n (-1)) 0 (2 ^ v)) (0 + stP (tnP n (-1)) 0 (2 ^ v)) (by omega) (by
      refine Nat.lt_of_le_of_lt hb (Nat.pow_lt_pow_right (by omega) (by omega)))
    rw [show 71 + 3 + J = 599 by omega] at this
    exact this
theorem pt_some {n c : Int} (h : n = 26 ∨ n = 4801 ∨ n = 8749) {v : Nat} (hv : v ≤ 4200) (hc : AbP c 10) : ∃ T, pt1 c (tnP n (-1)) v = some T ∧ AbP T 4850 := by
  obtain ⟨S, hS⟩ := tn_some h hv
  have hg : GdP (tnP n (-1)) := tnP_good (by rcases h with h | h | h <;> subst h <;> simp)
  refine ⟨S * c, ?_, pt_abs hg hS hc hv⟩
  unfold pt1
  rw [hS]
theorem lnT_some {v : Nat} (hv : v ≤ 4200) : ∃ T, lnT v = some T ∧ AbP T 4852 := by
  obtain ⟨a, ha, xa⟩ := pt_some (n := 26) (c := 18) (Or.inl rfl) hv (by unfold AbP; decide)
  obtain ⟨b, hb, xb⟩ := pt_some (n := 4801) (c := -2) (Or.inr (Or.inl rfl)) hv (by unfold AbP; decide)
  obtain ⟨d, hd, xd⟩ := pt_some (n := 8749) (c := 8) (Or.inr (Or.inr rfl)) hv (by unfold AbP; decide)
  refine ⟨a + b + d, ?_, (xa.add xb).add (xd.up (by omega))⟩
  unfold lnT
  rw [ha, hb, hd]
  rfl
/-- The lower end of the program's logarithm of 2 at the precision p. -/
theorem ln_L {p : Nat} (hp : p ≤ 4130) (hp3 : 18 ≤ p) : ∃ (T : Int) (j : Nat), lnT (p + 32) = some T ∧ AbP (loC T) j ∧ AbP (hiC T) j ∧ p + 3 ≤ j ∧ j ≤ 5000 ∧ (p ≤ 192 → j = p + 3 ∧ UpE (dq (loC T) (-(p : Int))) 2 ∧ LoE 2 (dq (loC T + 2) (-(p : Int)))) := by
  by_cases h : p ≤ 192
  · obtain ⟨T, hT, hC⟩ := cn_ln (k := p) (by omega)
    refine ⟨T, p + 3, hT, hC.al, hC.ah, by omega, by omega, fun _ => ⟨rfl, ln_up.mono hC.lo, ln_lo.mono (Rat.le_trans hC.hi ((dq_le_iff _ _ _).2 hC.wd)) (by decide +kernel)⟩⟩
  · obtain ⟨T, hT, hA⟩ := lnT_some (v := p + 32) (by omega)
    obtain ⟨l1, l2⟩ := loC_abs hA (by omega)
    exact ⟨T, 4853, hT, l1, l2, by omega, by omega, fun h9 => absurd h9 h⟩
/-- The ends of the result. -/
def lnLo (S : Int) : Int := (S - 32768) / 2 ^ 32
def lnHi (S : Int) : Int := cdv (S + 32768) (2 ^ 32)
theorem lnLo_cut {S : Int} {k p : Nat} (hp : p = k + 32) : cutQ (dq (S - 32768) (-(p : Int))) (k : Int) = lnLo S := cutD_down 32 (by omega)
theorem lnHi_cut {S : Int} {k p : Nat} (hp : p = k + 32) : -(cutQ (-(dq (S + 32768) (-(p : Int)))) (k : Int)) = lnHi S := by
  rw [← dq_neg, cutD_down 32 (by omega)]
  rfl
theorem lnLo_en {S : Int} {k p : Nat} {x : Rat} (hp : p = k + 32) (h : UpE (dq (S - 32768) (-(p : Int))) x) (h2 : LoE x (dq (S + 32768) (-(p : Int)))) : EnA k (lnLo S) x := by
  have c1 := cut_lo (dq (S - 32768) (-(p : Int))) (k : Int)
  rw [lnLo_cut hp] at c1
  refine ⟨h.mono c1, h2.mono ?_ (Rat.le_of_lt h.pos)⟩
  have e : dq (lnLo S) (-(k : Int)) + 2 * dq 1 (-(k : Int)) = dq ((lnLo S + 2) * 2 ^ 32) (-(p : Int)) := by
    have e2 : 2 * dq 1 (-(k : Int)) = dq 2 (-(k : Int)) := by rw [dq_scale 2]; rfl
    rw [e2, ← dq_addI]
    refine dq_eq (F := -(p : Int)) ?_ (by omega) (by omega)
    rw [show (-(k : Int) - -(p : Int)).toNat = 32 by omega, show (-(p : Int) - -(p : Int)).toNat = 0 by omega]
    simp
  rw [e]
  refine (dq_le_iff _ _ _).2 ?_
  unfold lnLo
  omega
theorem lnHi_en {S : Int} {k p : Nat} {x : Rat} (hp : p = k + 32) (h : UpE (dq (S - 32768) (-(p : Int))) x) (h2 : LoE x (dq (S + 32768) (-(p : Int)))) : EnB k (lnHi S) x := by
  have c1 := cut_lo (-(dq (S + 32768) (-(p : Int)))) (k : Int)
  have e9 : cutQ (-(dq (S + 32768) (-(p : Int)))) (k : Int) = -(lnHi S) := by rw [← lnHi_cut hp, Int.neg_neg]
  rw [e9, dq_neg] at c1
  refine ⟨h.mono ?_, h2.mono ?_ (Rat.le_of_lt h.pos)⟩
  · have e : dq (lnHi S) (-(k : Int)) - 2 * dq 1 (-(k : Int)) = dq ((lnHi S - 2) * 2 ^ 32) (-(p : Int)) := by
      have e2 : 2 * dq 1 (-(k : Int)) = dq 2 (-(k : Int)) := by rw [dq_scale 2]; rfl
      rw [e2, Rat.sub_eq_add_neg, ← dq_neg, ← dq_addI, ← Int.sub_eq_add_neg]
      refine dq_eq (F := -(p : Int)) ?_ (by omega) (by omega)
      rw [show (-(k : Int) - -(p : Int)).toNat = 32 by omega, show (-(p : Int) - -(p : Int)).toNat = 0 by omega]
      simp
    rw [e]
    refine (dq_le_iff _ _ _).2 ?_
    unfold lnHi cdv
    omega
  · generalize dq (S + 32768) (-(p : Int)) = y at *
    generalize dq (lnHi S) (-(k : Int)) = z at *
    clear h h2 e9
    grind
theorem lnLo_abs {S : Int} {k j : Nat} (h : AbP S (j + 15)) (hj : j = k + 35) : AbP (lnLo S) (k + 19) ∧ AbP (lnHi S) (k + 19) := by
  have b : AbP 32768 (j + 15) := AbP.up (j := 15) (by unfold AbP; decide) (by omega)
  have h1 := h.add b.neg
  rw [← Int.sub_eq_add_neg] at h1
  have h2 := h.add b
  rw [show j + 15 + 1 = k + 19 + 32 by omega] at h1 h2
  exact ⟨h1.shr, h2.cshr⟩
theorem lnLo_any {S : Int} {j : Nat} (h : AbP S (j + 15)) : AbP (lnLo S) (j + 16) ∧ AbP (lnHi S) (j + 16) := by
  have b : AbP 32768 (j + 15) := AbP.up (j := 15) (by unfold AbP; decide) (by omega)
  have h1 := h.add b.neg
  rw [← Int.sub_eq_add_neg] at h1
  have h2 := h.add b
  exact ⟨h1.fl (pow2_pos 32), h2.cd (pow2_pos 32)⟩
/-- A margin of 2^15 units. -/
theorem nx_margin {p q : Nat} (h : q + 15 = p) (hp : p ≤ 5000) : mkM 1 (-(q : Int)) = mkM 32768 (-(p : Int)) ∧ mkE 1 (-(q : Int)) = mkE 32768 (-(p : Int)) ∧ mkR 1 (-(q : Int)) = 0 := by
  obtain ⟨a1, _⟩ := nx (T := 1) (x := -(q : Int)) (j := 0) (by unfold AbP; decide) (by omega) (by omega)
  obtain ⟨b1, _⟩ := nx (T := 32768) (x := -(p : Int)) (j := 15) (by unfold AbP; decide) (by omega) (by omega)
  have := mk_uniq a1 b1 (by
    refine dq_eq (F := -(p : Int)) ?_ (by omega) (by omega)
    rw [show (-(q : Int) - -(p : Int)).toNat = 15 by omega, show (-(p : Int) - -(p : Int)).toNat = 0 by omega]
    decide)
  exact ⟨this.1, this.2, a1⟩


end Go.Proofs.YtmlddkiccjpoeaaGreatDoor
