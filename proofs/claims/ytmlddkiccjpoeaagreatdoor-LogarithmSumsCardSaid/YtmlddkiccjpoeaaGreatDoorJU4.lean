/- Joined: LnPE, Awake15, ExPB, ExPC, ExF, RefExE, ExH, ExK, LnH, DyOpen, IvOpen, ExL, ExJ, LnJ (what the law leans on). -/
import Derived.Test.YtmlddkiccjpoeaaGreatDoorBaseIU
import Derived.Test.YtmlddkiccjpoeaaGreatDoorBaseJU
import Derived.Test.YtmlddkiccjpoeaaGreatDoorBaseDU
import Derived.Test.YtmlddkiccjpoeaaGreatDoorBaseEU
import Derived.Test.YtmlddkiccjpoeaaGreatDoorBaseVU
import Derived.Test.YtmlddkiccjpoeaaGreatDoorBaseWU
import Derived.Test.YtmlddkiccjpoeaaGreatDoorRefGrBU
import Derived.Test.YtmlddkiccjpoeaaGreatDoorBaseXU
import Derived.Test.YtmlddkiccjpoeaaGreatDoorGrPCU
import Derived.Test.YtmlddkiccjpoeaaGreatDoorBaseZU
import Derived.Test.YtmlddkiccjpoeaaGreatDoorJU1
import Derived.Test.YtmlddkiccjpoeaaGreatDoorJU2
import Derived.Test.YtmlddkiccjpoeaaGreatDoorJU3
import Derived.BigQuiet
import Derived.ChangeOld
import Derived.Deep.Cut
import Derived.Deep.CutRange
import Derived.Deep.DrawnRows
import Derived.Deep.QuietTactic
import Derived.Deep.RegionHeld3
import Derived.Lib.SmallJoins
import Derived.OpenShut
import Derived.ProofKit
namespace Go.Proofs.YtmlddkiccjpoeaaGreatDoor
open Go.RowKit
set_option linter.unusedVariables false
set_option linter.unusedSimpArgs false
set_option maxRecDepth 100000
attribute [local go_sem ↓] Go.wp_at_zero Go.wp_at_succ

/-- What Ln returns. -/
def RetLn (w : World) (k : Nat) (m e n f : Int) (en : Ending) (w' : World) : Prop := ∃ a b : Int, (k ≤ 160 → (spK m e).natAbs ≤ 3000 → (spK n f).natAbs ≤ 3000 → EnA k a (dq m e) ∧ EnB k b (dq n f) ∧ AbP a (k + 19) ∧ AbP b (k + 19)) ∧ RetIE w (mkM a (-(k : Int))) (mkE a (-(k : Int))) (mkM b (-(k : Int))) (mkE b (-(k : Int))) 0 en w'
theorem okL_yes {k : Nat} (h : k ≤ 4096) : okL (k : Int) = true := by
  unfold okL
  rw [decide_eq_true (show (0 : Int) ≤ (k : Int) by omega), decide_eq_true (show (k : Int) ≤ 4096 by omega)]
  rfl

set_option maxHeartbeats 4000000 in
theorem xln_arg (m e n f k : Int) (vx : Value) (w : World) (hx : IsI w vx m e n f) (hk : okL k = false) :
    Calls Tryz.prog 13 #[vx, .int .i64 k] w (RetIE w 0 0 0 0 1) := by
  obtain ⟨A, c, B, d, rfl, hn1, hn2⟩ := hx.form
  have L0 := ((Lq.mk0 w).n hn2).n hn1
  have HP0 := fun W => lperm_any k W
  rw [hk] at HP0
  have HP := Lib.hid HP0
  clear HP0 hx
  go_enter Tryz.func13, Tryz.ntmps13
  have L := ((L0.varI (w.heap.size) (by simp) (ng m) A (zl m) c e (ng n) B (zl n) d f).varI (w.heap.size + 1) (by simp) false none 0 0 0 false none 0 0 0)
  have c00 := L.b0.c60
  have f00 := L.b0.fr 0
  have c01 := L.b0.c61
  have f01 := L.b0.fr 1
  have c02 := L.b0.c62
  have f02 := L.b0.fr 2
  have c03 := L.b0.c63
  have f03 := L.b0.fr 3
  have c04 := L.b0.c64
  have f04 := L.b0.fr 4
  have c05 := L.b0.c65
  have f05 := L.b0.fr 5
  (try go_wp2_with fail)
  refine (HP.out _).mono ?_
  rintro e9 w' ⟨rfl, rfl⟩
  (try go_wp2_with fail)
  exact bodyPost_ret (v := .tuple #[.agg #[.bool false, .slice none 0 0, .int .i64 0, .bool false, .slice none 0 0, .int .i64 0], .int .i64 1]) (by simp [results, Tryz.results13, go_sem, c00, c01, c02, c03, c04, c05]) rfl ⟨_, rfl, isI_zero _, L.below⟩
set_option maxHeartbeats 4000000 in
theorem xln_dom (m e n f k : Int) (vx : Value) (w : World) (hx : IsI w vx m e n f) (hk : okL k = true) (ln : zl n ≤ 1000) (h0 : n ≤ 0) :
    Calls Tryz.prog 13 #[vx, .int .i64 k] w (RetIE w 0 0 0 0 4) := by
  obtain ⟨A, c, B, d, rfl, hn1, hn2⟩ := hx.form
  have L0 := ((Lq.mk0 w).n hn2).n hn1
  have HP0 := fun W => lperm_any k W
  rw [hk] at HP0
  have HP := Lib.hid HP0
  have G1 := Lib.hid (fun x W h => dsign_any n f x W h (by omega))
  obtain ⟨s, hs⟩ : ∃ s, cmpI n 0 = s := ⟨_, rfl⟩
  have hs0 : s ≤ 0 := by rw [← hs]; unfold cmpI; (repeat' split) <;> omega
  rw [hs] at G1
  clear HP0 hx hs ln h0
  go_enter Tryz.func13, Tryz.ntmps13
  have L := ((L0.varI (w.heap.size) (by simp) (ng m) A (zl m) c e (ng n) B (zl n) d f).varI (w.heap.size + 1) (by simp) false none 0 0 0 false none 0 0 0)
  have c00 := L.b0.c60
  have f00 := L.b0.fr 0
  have c01 := L.b0.c61
  have f01 := L.b0.fr 1
  have c02 := L.b0.c62
  have f02 := L.b0.fr 2
  have c03 := L.b0.c63
  have f03 := L.b0.fr 3
  have c04 := L.b0.c64
  have f04 := L.b0.fr 4
  have c05 := L.b0.c65
  have f05 := L.b0.fr 5
  have c10 := L.tl.b0.c60
  have c11 := L.tl.b0.c61
  have c12 := L.tl.b0.c62
  have c13 := L.tl.b0.c63
  have c14 := L.tl.b0.c64
  have c15 := L.tl.b0.c65
  (try go_wp2_with fail)
  refine (HP.out _).mono ?_
  rintro e9 w' ⟨rfl, rfl⟩
  (try go_wp2_with fail)
  refine (G1.out _ _ (isD_n (m := n) (e := f) (s := .slice B (zl n) d) (L.getN (by simp)))).mono ?_
  rintro e w1 ⟨rfl, be⟩
  clear c00 f00 c01 f01 c02 f02 c03 f03 c04 f04 c05 f05 c10 c11 c12 c13 c14 c15
  replace L := L.step be
  clear be
  have d1 : decide (s ≤ 0) = true := decide_eq_true hs0
  have c00 := L.b0.c60
  have f00 := L.b0.fr 0
  have c01 := L.b0.c61
  have f01 := L.b0.fr 1
  have c02 := L.b0.c62
  have f02 := L.b0.fr 2
  have c03 := L.b0.c63
  have f03 := L.b0.fr 3
  have c04 := L.b0.c64
  have f04 := L.b0.fr 4
  have c05 := L.b0.c65
  have f05 := L.b0.fr 5
  (try go_wp2_with fail)
  clear c00 f00 c01 f01 c02 f02 c03 f03 c04 f04 c05 f05
  have LP := L.putI (by omega) (by first | (simp; done) | (simp; omega)) false none 0 0 0 false none 0 0 0
  have k0 := LP.b0.c60
  have k1 := LP.b0.c61
  have k2 := LP.b0.c62
  have k3 := LP.b0.c63
  have k4 := LP.b0.c64
  have k5 := LP.b0.c65
  unfold put6 at k0 k1 k2 k3 k4 k5
  exact bodyPost_ret (v := .tuple #[.agg #[.bool false, .slice none 0 0, .int .i64 0, .bool false, .slice none 0 0, .int .i64 0], .int .i64 4]) (by simp [results, Tryz.results13, go_sem, k0, k1, k2, k3, k4, k5]) rfl ⟨_, rfl, isI_zero _, LP.below⟩
set_option maxHeartbeats 4000000 in
theorem xln_unk (m e n f k : Int) (vx : Value) (w : World) (hx : IsI w vx m e n f) (hk : okL k = true) (ln : zl n ≤ 1000) (lm : zl m ≤ 1000) (h1 : 0 < n) (h0 : m ≤ 0) :
    Calls Tryz.prog 13 #[vx, .int .i64 k] w (RetIE w 0 0 0 0 5) := by
  obtain ⟨A, c, B, d, rfl, hn1, hn2⟩ := hx.form
  have L0 := ((Lq.mk0 w).n hn2).n hn1
  have HP0 := fun W => lperm_any k W
  rw [hk] at HP0
  have HP := Lib.hid HP0
  have G1 := Lib.hid (fun x W h => dsign_any n f x W h (by omega))
  have G2 := Lib.hid (fun x W h => dsign_any m e x W h (by omega))
  obtain ⟨s, hs⟩ : ∃ s, cmpI m 0 = s := ⟨_, rfl⟩
  have hs0 : s ≤ 0 := by rw [← hs]; unfold cmpI; (repeat' split) <;> omega
  rw [hs] at G2
  rw [cmpI_gt h1] at G1
  clear HP0 hx hs lm ln h0 h1
  go_enter Tryz.func13, Tryz.ntmps13
  have L := ((L0.varI (w.heap.size) (by simp) (ng m) A (zl m) c e (ng n) B (zl n) d f).varI (w.heap.size + 1) (by simp) false none 0 0 0 false none 0 0 0)
  have c00 := L.b0.c60
  have f00 := L.b0.fr 0
  have c01 := L.b0.c61
  have f01 := L.b0.fr 1
  have c02 := L.b0.c62
  have f02 := L.b0.fr 2
  have c03 := L.b0.c63
  have f03 := L.b0.fr 3
  have c04 := L.b0.c64
  have f04 := L.b0.fr 4
  have c05 := L.b0.c65
  have f05 := L.b0.fr 5
  have c10 := L.tl.b0.c60
  have c11 := L.tl.b0.c61
  have c12 := L.tl.b0.c62
  have c13 := L.tl.b0.c63
  have c14 := L.tl.b0.c64
  have c15 := L.tl.b0.c65
  (try go_wp2_with fail)
  refine (HP.out _).mono ?_
  rintro e9 w' ⟨rfl, rfl⟩
  (try go_wp2_with fail)
  refine (G1.out _ _ (isD_n (m := n) (e := f) (s := .slice B (zl n) d) (L.getN (by simp)))).mono ?_
  rintro e w1 ⟨rfl, be⟩
  clear c00 f00 c01 f01 c02 f02 c03 f03 c04 f04 c05 f05 c10 c11 c12 c13 c14 c15
  replace L := L.step be
  clear be
  have c00 := L.b0.c60
  have f00 := L.b0.fr 0
  have c01 := L.b0.c61
  have f01 := L.b0.fr 1
  have c02 := L.b0.c62
  have f02 := L.b0.fr 2
  have c03 := L.b0.c63
  have f03 := L.b0.fr 3
  have c04 := L.b0.c64
  have f04 := L.b0.fr 4
  have c05 := L.b0.c65
  have f05 := L.b0.fr 5
  have c10 := L.tl.b0.c60
  have c11 := L.tl.b0.c61
  have c12 := L.tl.b0.c62
  have c13 := L.tl.b0.c63
  have c14 := L.tl.b0.c64
  have c15 := L.tl.b0.c65
  (try go_wp2_with fail)
  refine (G2.out _ _ (isD_n (m := m) (e := e) (s := .slice A (zl m) c) (L.getN (by simp)))).mono ?_
  rintro e w2 ⟨rfl, be⟩
  clear c00 f00 c01 f01 c02 f02 c03 f03 c04 f04 c05 f05 c10 c11 c12 c13 c14 c15
  replace L := L.step be
  clear be
  have d1 : decide (s ≤ 0) = true := decide_eq_true hs0
  have c00 := L.b0.c60
  have f00 := L.b0.fr 0
  have c01 := L.b0.c61
  have f01 := L.b0.fr 1
  have c02 := L.b0.c62
  have f02 := L.b0.fr 2
  have c03 := L.b0.c63
  have f03 := L.b0.fr 3
  have c04 := L.b0.c64
  have f04 := L.b0.fr 4
  have c05 := L.b0.c65
  have f05 := L.b0.fr 5
  (try go_wp2_with fail)
  clear c00 f00 c01 f01 c02 f02 c03 f03 c04 f04 c05 f05
  have LP := L.putI (by omega) (by first | (simp; done) | (simp; omega)) false none 0 0 0 false none 0 0 0
  have k0 := LP.b0.c60
  have k1 := LP.b0.c61
  have k2 := LP.b0.c62
  have k3 := LP.b0.c63
  have k4 := LP.b0.c64
  have k5 := LP.b0.c65
  unfold put6 at k0 k1 k2 k3 k4 k5
  exact bodyPost_ret (v := .tuple #[.agg #[.bool false, .slice none 0 0, .int .i64 0, .bool false, .slice none 0 0, .int .i64 0], .int .i64 5]) (by simp [results, Tryz.results13, go_sem, k0, k1, k2, k3, k4, k5]) rfl ⟨_, rfl, isI_zero _, LP.below⟩
set_option maxHeartbeats 32000000 in
theorem xln_yes (m e n f : Int) (k : Nat) (vx : Value) (w : World) (hx : IsI w vx m e n f) (lm : zl m ≤ 100) (ln : zl n ≤ 100) (he : -9000 ≤ e ∧ e ≤ 9000) (hf : -9000 ≤ f ∧ f ≤ 9000) (hv : Dv m e) (hv2 : Dv n f) (hm : 0 < m) (hsm : smallB m e n f = true) (hk : k ≤ 4096) (hT : Tab w) :
    Calls Tryz.prog 13 #[vx, .int .i64 (k : Int)] w (RetLn w k m e n f) := by
  obtain ⟨A, c, B, d, rfl, hn1, hn2⟩ := hx.form
  have L0 := ((Lq.mk0 w).n hn2).n hn1
  have HT := Lib.hid (fun W (hW : Below w.heap.size w W) => hT.mono hW)
  have HP0 := fun W => lperm_any (k : Int) W
  rw [okL_yes hk] at HP0
  have HP := Lib.hid HP0
  have hmn : dcm m e n f ≤ 0 := by
    unfold smallB at hsm
    rw [Bool.and_eq_true] at hsm
    exact of_decide_eq_true hsm.1
  have hn : 0 < n := by
    have h1 := (dcm_le m e n f).1 hmn
    have h2 := (dq_gt0 m e).2 hm
    refine (dq_gt0 n f).1 ?_
    generalize dq m e = x at *
    generalize dq n f = y at *
    grind
  have g1 := fun x W h => dsign_any n f x W h (by omega)
  have g2 := fun x W h => dsign_any m e x W h (by omega)
  rw [cmpI_gt hn] at g1
  rw [cmpI_gt hm] at g2
  have g3 := fun x W h => asmall_any m e n f x W h (by omega) (by omega) (by omega) (by omega) hv hv2
  rw [hsm] at g3
  obtain ⟨p, hp⟩ : ∃ p, k + 32 = p := ⟨_, rfl⟩
  obtain ⟨T, j, hTs, hL, hH, hj1, hj2, hL2⟩ := ln_L (p := p) (by omega) (by omega)
  have g4 := fun W (hW : Below w.heap.size w W) => cln_yes p T W (by omega) (hT.mono hW) hTs
  have g5 := fun x y W h i (hW : Below w.heap.size w W) => llog_any m e (loC T) j p x y W h i hm hv lm he hL hj1 hj2 (by omega) (by omega) (hT.mono hW)
  have g6 := fun x y W h i => dcmp_any m e n f x y W h i (by omega) (by omega) (by omega) (by omega)
  rw [show cmpI (m * 2 ^ (e - min e f).toNat) (n * 2 ^ (f - min e f).toNat) = dcm m e n f from rfl] at g6
  have g7 := fun x y W h i (hW : Below w.heap.size w W) => llog_any n f (loC T) j p x y W h i hn hv2 ln hf hL hj1 hj2 (by omega) (by omega) (hT.mono hW)
  obtain ⟨q, hq⟩ : ∃ q, k + 17 = q := ⟨_, rfl⟩
  obtain ⟨u1, u2, u3⟩ := nx_margin (p := p) (q := q) (by omega) (by omega)
  obtain ⟨y1, y2, y3⟩ := g_yes (permN (p := q) (by omega)) 1
  have g8 := fun W (hW : Below w.heap.size w W) => gunit_any (q : Int) W (by omega) (by omega) (hT.mono hW)
  rw [y1, y2, y3, u1, u2, u3] at g8
  have w1 : IntKind.i64.wrap ((k : Int) + 32) = (p : Int) := by rw [IntKind.wrap_i64]; omega
  have w2 : IntKind.i64.wrap ((p : Int) - 15) = (q : Int) := by rw [IntKind.wrap_i64]; omega
  have HQ := Lib.hid (And.intro hp (And.intro hk (And.intro hj1 (And.intro hj2 hL2))))
  have hcase : (dcm m e n f < 0) ∨ (m = n ∧ e = f ∧ dcm m e n f = 0) := by
    rcases Int.lt_or_le (dcm m e n f) 0 with q9 | q9
    · exact Or.inl q9
    · have q0 : dcm m e n f = 0 := by omega
      obtain ⟨a, b⟩ := (dcm_eq hv hv2).1 q0
      exact Or.inr ⟨a, b, q0⟩
  generalize dcm m e n f = cn at *
  clear hmn hn hTs hL hH hj1 hj2 hL2 u1 u2 u3 y1 y2 y3 hq hp hk hm hv hv2 lm ln he hf hsm hT hx HP0
  obtain ⟨ML, hML⟩ : ∃ z, mkM (loC T) (-(p : Int)) = z := ⟨_, rfl⟩
  obtain ⟨EL, hEL⟩ : ∃ z, mkE (loC T) (-(p : Int)) = z := ⟨_, rfl⟩
  rw [hML, hEL] at g4 g5 g7
  clear hML hEL
  generalize mkM (hiC T) (-(p : Int)) = MH at *
  generalize mkE (hiC T) (-(p : Int)) = EH at *
  obtain ⟨Mu, hMu⟩ : ∃ z, mkM 32768 (-(p : Int)) = z := ⟨_, rfl⟩
  obtain ⟨Eu, hEu⟩ : ∃ z, mkE 32768 (-(p : Int)) = z := ⟨_, rfl⟩
  rw [hMu, hEu] at g8
  have HMU := Lib.hid (And.intro hMu hEu)
  clear hMu hEu
  have G1 := Lib.hid g1
  have G2 := Lib.hid g2
  have G3 := Lib.hid g3
  have G4 := Lib.hid g4
  have G5 := Lib.hid g5
  have G6 := Lib.hid g6
  have G7 := Lib.hid g7
  have G8 := Lib.hid g8
  clear g1 g2 g3 g4 g5 g6 g7 g8
  rcases hcase with hlt | ⟨rfl, rfl, hlt⟩
  · have d2 : decide (cn < 0) = true := decide_eq_true hlt
    go_enter Tryz.func13, Tryz.ntmps13
    have L := ((L0.varI (w.heap.size) (by simp) (ng m) A (zl m) c e (ng n) B (zl n) d f).varI (w.heap.size + 1) (by simp) false none 0 0 0 false none 0 0 0)
    have c10 := L.tl.b0.c60
    have c11 := L.tl.b0.c61
    have c12 := L.tl.b0.c62
    have c13 := L.tl.b0.c63
    have c14 := L.tl.b0.c64
    have c15 := L.tl.b0.c65
    (try go_wp2_with fail)
    refine (HP.out _).mono ?_
    rintro e9 w' ⟨rfl, rfl⟩
    (try go_wp2_with fail)
    refine (G1.out _ _ (isD_n (m := n) (e := f) (s := .slice B (zl n) d) (L.getN (by simp)))).mono ?_
    rintro e w1 ⟨rfl, be⟩
    clear c10 c11 c12 c13 c14 c15
    replace L := L.step be
    clear be
    have c10 := L.tl.b0.c60
    have c11 := L.tl.b0.c61
    have c12 := L.tl.b0.c62
    have c13 := L.tl.b0.c63
    have c14 := L.tl.b0.c64
    have c15 := L.tl.b0.c65
    (try go_wp2_with fail)
    refine (G2.out _ _ (isD_n (m := m) (e := e) (s := .slice A (zl m) c) (L.getN (by simp)))).mono ?_
    rintro e w2 ⟨rfl, be⟩
    clear c10 c11 c12 c13 c14 c15
    replace L := L.step be
    clear be
    have c10 := L.tl.b0.c60
    have c11 := L.tl.b0.c61
    have c12 := L.tl.b0.c62
    have c13 := L.tl.b0.c63
    have c14 := L.tl.b0.c64
    have c15 := L.tl.b0.c65
    (try go_wp2_with fail)
    refine (G3.out _ _ (isI_n (m := m) (e := e) (n := n) (f := f) (s := .slice A (zl m) c) (t := .slice B (zl n) d) (L.getN (by simp)) (L.getN (by simp)))).mono ?_
    rintro e w3 ⟨rfl, be⟩
    clear c10 c11 c12 c13 c14 c15
    replace L := L.step be
    clear be
    (try go_wp2_with fail)
    refine (G4.out _ L.below).mono ?_
    rintro e w4 ⟨v9, rfl, ii, be⟩
    obtain ⟨A1, c1, B1, d1, rfl, ia, ib⟩ := ii.form
    replace L := ((L.step be).n ib).n ia
    clear be ii ia ib
    have hl9 := L.b0.lt
    replace L := L.varI w4.heap.size rfl (ng ML) A1 (zl ML) c1 EL (ng MH) B1 (zl MH) d1 EH
    have c00 := L.b0.c60
    have c01 := L.b0.c61
    have c02 := L.b0.c62
    have c03 := L.b0.c63
    have c04 := L.b0.c64
    have c05 := L.b0.c65
    have c20 := L.tl.tl.b0.c60
    have c21 := L.tl.tl.b0.c61
    have c22 := L.tl.tl.b0.c62
    have c23 := L.tl.tl.b0.c63
    have c24 := L.tl.tl.b0.c64
    have c25 := L.tl.tl.b0.c65
    go_wp2_with fail
    clear c00 c01 c02 c03 c04 c05 c20 c21 c22 c23 c24 c25
    obtain ⟨g0, hg0⟩ : ∃ g9, w4.heap.size = g9 := ⟨_, rfl⟩
    rw [hg0] at L hl9 ⊢
    clear hg0
    have hl_g0 := hl9
    clear hl9
    refine (G5.out _ _ _ (isD_n (m := m) (e := e) (s := .slice A (zl m) c) (L.getN (by simp))) (isD_n (m := ML) (e := EL) (s := .slice A1 (zl ML) c1) (L.getN (by simp))) L.below).mono ?_
    rintro e w5 ⟨s1, ok1, hs1, v9, rfl, iz, be⟩
    obtain ⟨A2, c2, rfl, _, in9⟩ := iz.form
    replace L := (L.step be).n in9
    clear be iz in9
    have hl9 := L.b0.lt
    obtain ⟨M1, hM1⟩ : ∃ z, mkM s1 (-(p : Int)) = z := ⟨_, rfl⟩
    obtain ⟨E1, hE1⟩ : ∃ z, mkE s1 (-(p : Int)) = z := ⟨_, rfl⟩
    rw [hM1] at L ⊢
    rw [hE1]
    have HW1 := Lib.hid (And.intro ok1 (And.intro hs1 (And.intro hM1 hE1)))
    clear ok1 hs1 hM1 hE1
    replace L := L.varD w5.heap.size rfl (ng M1) A2 (zl M1) c2 E1
    have c00 := L.b0.c30
    have c01 := L.b0.c31
    have c02 := L.b0.c32
    replace L := L.varD (w5.heap.size + 1) (by simp) (ng M1) A2 (zl M1) c2 E1
    have d00 := L.tl.tl.tl.tl.b0.c60
    have d01 := L.tl.tl.tl.tl.b0.c61
    have d02 := L.tl.tl.tl.tl.b0.c62
    have d03 := L.tl.tl.tl.tl.b0.c63
    have d04 := L.tl.tl.tl.tl.b0.c64
    have d05 := L.tl.tl.tl.tl.b0.c65
    (try go_wp2_with fail)
    clear c00 c01 c02 d00 d01 d02 d03 d04 d05
    obtain ⟨g1, hg1⟩ : ∃ g9, w5.heap.size = g9 := ⟨_, rfl⟩
    rw [hg1] at L hl9 ⊢
    clear hg1
    have hl_g1 := hl9
    clear hl9
    refine (G6.out _ _ _ (isD_n (m := m) (e := e) (s := .slice A (zl m) c) (L.getN (by simp))) (isD_n (m := n) (e := f) (s := .slice B (zl n) d) (L.getN (by simp)))).mono ?_
    rintro e w6 ⟨rfl, be⟩
    replace L := L.step be
    clear be
    have c20 := L.tl.tl.b0.c60
    have c21 := L.tl.tl.b0.c61
    have c22 := L.tl.tl.b0.c62
    have c23 := L.tl.tl.b0.c63
    have c24 := L.tl.tl.b0.c64
    have c25 := L.tl.tl.b0.c65
    have c40 := L.tl.tl.tl.tl.b0.c60
    have c41 := L.tl.tl.tl.tl.b0.c61
    have c42 := L.tl.tl.tl.tl.b0.c62
    have c43 := L.tl.tl.tl.tl.b0.c63
    have c44 := L.tl.tl.tl.tl.b0.c64
    have c45 := L.tl.tl.tl.tl.b0.c65
    (try go_wp2_with fail)
    refine (G7.out _ _ _ (isD_n (m := n) (e := f) (s := .slice B (zl n) d) (L.getN (by simp))) (isD_n (m := ML) (e := EL) (s := .slice A1 (zl ML) c1) (L.getN (by simp))) L.below).mono ?_
    rintro e w7 ⟨s2, ok2, hs2, v9, rfl, iz, be⟩
    clear c20 c21 c22 c23 c24 c25 c40 c41 c42 c43 c44 c45
    obtain ⟨A3, c3, rfl, _, in9⟩ := iz.form
    replace L := (L.step be).n in9
    clear be iz in9
    obtain ⟨M2, hM2⟩ : ∃ z, mkM s2 (-(p : Int)) = z := ⟨_, rfl⟩
    obtain ⟨E2, hE2⟩ : ∃ z, mkE s2 (-(p : Int)) = z := ⟨_, rfl⟩
    rw [hM2] at L ⊢
    rw [hE2]
    have HW2 := Lib.hid (And.intro ok2 (And.intro hs2 (And.intro hM2 hE2)))
    clear ok2 hs2 hM2 hE2
    have c00 := L.b0.c30
    have f00 := L.b0.fr 0
    have c01 := L.b0.c31
    have f01 := L.b0.fr 1
    have c02 := L.b0.c32
    have f02 := L.b0.fr 2
    have P := L.putD (by omega) (by simp; omega) (ng M2) A3 (zl M2) c3 E2
    unfold put3 at P
    (try go_wp2_with fail)
    replace L := P
    clear P
    clear c00 f00 c01 f01 c02 f02
    refine (G8.out _ L.below).mono ?_
    rintro e w8 ⟨v9, rfl, iz, be⟩
    obtain ⟨A4, c4, rfl, _, in9⟩ := iz.form
    replace L := (L.step be).n in9
    clear be iz in9
    have hl9 := L.b0.lt
    replace L := L.varD w8.heap.size rfl (ng Mu) A4 (zl Mu) c4 Eu
    have c00 := L.b0.c30
    have c01 := L.b0.c31
    have c02 := L.b0.c32
    have c20 := L.tl.tl.b0.c30
    have c21 := L.tl.tl.b0.c31
    have c22 := L.tl.tl.b0.c32
    go_wp2_with fail
    clear c00 c01 c02 c20 c21 c22
    obtain ⟨gm, hgm⟩ : ∃ g9, w8.heap.size = g9 := ⟨_, rfl⟩
    rw [hgm] at L hl9 ⊢
    clear hgm
    have hl_gm := hl9
    clear hl9
    obtain ⟨hmu, heu⟩ := HMU.out
    obtain ⟨hp, hk, hj1, hj2, hL2⟩ := HQ.out
    obtain ⟨ok1, hs1, hM1, hE1⟩ := HW1.out
    obtain ⟨ok2, hs2, hM2, hE2⟩ := HW2.out
    have a15 : AbP 32768 (j + 15) := AbP.up (j := 15) (by unfold AbP; decide) (by omega)
    have hpy : -6000 ≤ -(p : Int) ∧ -(p : Int) ≤ 100 := by omega
    have hpc : -4500 ≤ -(p : Int) ∧ -(p : Int) ≤ 0 := by omega
    obtain ⟨r1, r2, r3, _, _⟩ := nxc 10000 hs1 (by omega) hpc (by omega) (by omega)
    obtain ⟨t1, t2, t3, _, _⟩ := nxc 10000 a15 (by omega) hpc (by omega) (by omega)
    obtain ⟨b1, b2, b3⟩ := nx_sub hs1 a15 (by omega) hpy
    have g9 := fun x y W h i (hW : Below w.heap.size w W) => dsub_any (mkM s1 (-(p : Int))) (mkE s1 (-(p : Int))) (mkM 32768 (-(p : Int))) (mkE 32768 (-(p : Int))) x y W h i (by omega) (by omega) (by omega) (by omega) (HT.out W hW)
    rw [b1, b2, b3] at g9
    have al : AbP (s1 - 32768) (j + 16) := by rw [Int.sub_eq_add_neg]; exact hs1.add a15.neg
    obtain ⟨l1, l2, l3, l4, l5⟩ := nxc 10000 al (by omega) hpc (by omega) (by omega)
    obtain ⟨v1, v2, v3, _, _⟩ := nxc 10000 hs2 (by omega) hpc (by omega) (by omega)
    obtain ⟨c1', c2', c3'⟩ := nx_add hs2 a15 (by omega) hpy
    have g10 := fun x y W h i (hW : Below w.heap.size w W) => dadd_any (mkM s2 (-(p : Int))) (mkE s2 (-(p : Int))) (mkM 32768 (-(p : Int))) (mkE 32768 (-(p : Int))) x y W h i (by omega) (by omega) (by omega) (by omega) (HT.out W hW)
    rw [c1', c2', c3'] at g10
    have ah : AbP (s2 + 32768) (j + 16) := hs2.add a15
    obtain ⟨h1, h2, h3, h4, h5⟩ := nxc 10000 ah (by omega) hpc (by omega) (by omega)
    obtain ⟨la, _⟩ := lnLo_any hs1
    obtain ⟨_, lb⟩ := lnLo_any hs2
    obtain ⟨ra, _⟩ := nx (x := -(k : Int)) la (by omega) (by omega)
    obtain ⟨rb, _⟩ := nx (x := -(k : Int)) lb (by omega) (by omega)
    have ca := lnLo_cut (S := s1) hp.symm
    have cb := lnHi_cut (S := s2) hp.symm
    have g11 := fun x W h (hW : Below w.heap.size w W) => i10out_yes (mkM (s1 - 32768) (-(p : Int))) (mkE (s1 - 32768) (-(p : Int))) (mkM (s2 + 32768) (-(p : Int))) (mkE (s2 + 32768) (-(p : Int))) (k : Int) x W h (by omega) (by omega) (by omega) (by omega) (by omega) (by omega) (permN (by omega)) (by rw [l5, ca]; exact ra) (by rw [h5, cb]; exact rb) (HT.out W hW)
    rw [l5, h5, ca, cb] at g11
    have hres : k ≤ 160 → (spK m e).natAbs ≤ 3000 → (spK n f).natAbs ≤ 3000 → EnA k (lnLo s1) (dq m e) ∧ EnB k (lnHi s2) (dq n f) ∧ AbP (lnLo s1) (k + 19) ∧ AbP (lnHi s2) (k + 19) := fun h160 q1 q2 => by
      obtain ⟨ej, u1, u2⟩ := hL2 (by omega)
      obtain ⟨x1, x2⟩ := ok1 u1 u2 q1
      obtain ⟨x3, x4⟩ := ok2 u1 u2 q2
      exact ⟨lnLo_en hp.symm x1 x2, lnHi_en hp.symm x3 x4, (lnLo_abs hs1 (by omega)).1, (lnLo_abs hs2 (by omega)).2⟩
    rw [hM1, hE1, hmu, heu] at g9
    rw [hM2, hE2, hmu, heu] at g10
    obtain ⟨a, ha⟩ : ∃ z, lnLo s1 = z := ⟨_, rfl⟩
    obtain ⟨b, hb⟩ : ∃ z, lnHi s2 = z := ⟨_, rfl⟩
    rw [ha, hb] at g11 hres
    have HR := Lib.hid hres
    clear hres ca cb ra rb la lb l1 l2 l3 l4 l5 h1 h2 h3 h4 h5 al ah b1 b2 b3 c1' c2' c3' r1 r2 r3 t1 t2 t3 a15 hpy hpc hmu heu hp hk hj1 hj2 hL2 ok1 hs1 hM1 hE1 ha hb ok2 hs2 hM2 hE2 v1 v2 v3
    generalize mkM (s1 - 32768) (-(p : Int)) = Mo at *
    generalize mkE (s1 - 32768) (-(p : Int)) = Eo at *
    generalize mkM (s2 + 32768) (-(p : Int)) = Mi at *
    generalize mkE (s2 + 32768) (-(p : Int)) = Ei at *
    obtain ⟨Ma, hMa⟩ : ∃ z, mkM a (-(k : Int)) = z := ⟨_, rfl⟩
    obtain ⟨Ea, hEa⟩ : ∃ z, mkE a (-(k : Int)) = z := ⟨_, rfl⟩
    obtain ⟨Nb, hNb⟩ : ∃ z, mkM b (-(k : Int)) = z := ⟨_, rfl⟩
    obtain ⟨Fb, hFb⟩ : ∃ z, mkE b (-(k : Int)) = z := ⟨_, rfl⟩
    rw [hMa, hEa, hNb, hFb] at g11
    have HN := Lib.hid (And.intro (And.intro hMa hEa) (And.intro hNb hFb))
    have G9 := Lib.hid g9
    have G10 := Lib.hid g10
    have G11 := Lib.hid g11
    clear g9 g10 g11 hMa hEa hNb hFb
    refine (G9.out _ _ _ (isD_n (m := M1) (e := E1) (s := .slice A2 (zl M1) c2) (L.getN (by simp))) (isD_n (m := Mu) (e := Eu) (s := .slice A4 (zl Mu) c4) (L.getN (by simp))) L.below).mono ?_
    rintro e w9 ⟨v9, rfl, iz, be⟩
    obtain ⟨A5, c5, rfl, _, in9⟩ := iz.form
    replace L := (L.step be).n in9
    clear be iz in9
    have hl9 := L.b0.lt
    replace L := L.varD w9.heap.size rfl (ng Mo) A5 (zl Mo) c5 Eo
    have c10 := L.tl.b0.c30
    have c11 := L.tl.b0.c31
    have c12 := L.tl.b0.c32
    have c20 := L.tl.tl.b0.c30
    have c21 := L.tl.tl.b0.c31
    have c22 := L.tl.tl.b0.c32
    go_wp2_with fail
    clear c10 c11 c12 c20 c21 c22
    obtain ⟨gl, hgl⟩ : ∃ g9, w9.heap.size = g9 := ⟨_, rfl⟩
    rw [hgl] at L hl9 ⊢
    clear hgl
    have hl_gl := hl9
    clear hl9
    refine (G10.out _ _ _ (isD_n (m := M2) (e := E2) (s := .slice A3 (zl M2) c3) (L.getN (by simp))) (isD_n (m := Mu) (e := Eu) (s := .slice A4 (zl Mu) c4) (L.getN (by simp))) L.below).mono ?_
    rintro e w10 ⟨v9, rfl, iz, be⟩
    obtain ⟨A6, c6, rfl, _, in9⟩ := iz.form
    replace L := (L.step be).n in9
    clear be iz in9
    have hl9 := L.b0.lt
    replace L := L.varD w10.heap.size rfl (ng Mi) A6 (zl Mi) c6 Ei
    have c00 := L.b0.c30
    have c01 := L.b0.c31
    have c02 := L.b0.c32
    have c10 := L.tl.b0.c30
    have c11 := L.tl.b0.c31
    have c12 := L.tl.b0.c32
    go_wp2_with fail
    clear c00 c01 c02 c10 c11 c12
    obtain ⟨gh, hgh⟩ : ∃ g9, w10.heap.size = g9 := ⟨_, rfl⟩
    rw [hgh] at L hl9 ⊢
    clear hgh
    have hl_gh := hl9
    clear hl9
    refine (G11.out _ _ (isI_n (m := Mo) (e := Eo) (n := Mi) (f := Ei) (s := .slice A5 (zl Mo) c5) (t := .slice A6 (zl Mi) c6) (L.getN (by simp)) (L.getN (by simp))) L.below).mono ?_
    rintro e w11 ⟨v2, rfl, ii, be⟩
    obtain ⟨A8, c8, B8, d8, rfl, ia, ib⟩ := ii.form
    replace L := ((L.step be).n ib).n ia
    clear be ii ia ib
    have L9 := L.subx (ns' := [(.slice A8 (zl Ma) c8, Ma.natAbs), (.slice B8 (zl Nb) d8, Nb.natAbs)]) (bs' := [(w.heap.size + 1, 28, #[.bool false, .slice none 0 0, .int .i64 0, .bool false, .slice none 0 0, .int .i64 0])]) (by simp) (by simp)
    clear L
    have L := L9
    clear L9
    have c00 := L.b0.c60
    have f00 := L.b0.fr 0
    have c01 := L.b0.c61
    have f01 := L.b0.fr 1
    have c02 := L.b0.c62
    have f02 := L.b0.fr 2
    have c03 := L.b0.c63
    have f03 := L.b0.fr 3
    have c04 := L.b0.c64
    have f04 := L.b0.fr 4
    have c05 := L.b0.c65
    have f05 := L.b0.fr 5
    go_wp2_with fail
    clear c00 f00 c01 f01 c02 f02 c03 f03 c04 f04 c05 f05
    have hR := HR.out
    obtain ⟨⟨hMa, hEa⟩, hNb, hFb⟩ := HN.out
    subst hMa hEa hNb hFb
    have LP := L.putI (by omega) (by first | (simp; done) | (simp; omega)) (ng (mkM a (-(k : Int)))) A8 (zl (mkM a (-(k : Int)))) c8 (mkE a (-(k : Int))) (ng (mkM b (-(k : Int)))) B8 (zl (mkM b (-(k : Int)))) d8 (mkE b (-(k : Int)))
    have k0 := LP.b0.c60
    have k1 := LP.b0.c61
    have k2 := LP.b0.c62
    have k3 := LP.b0.c63
    have k4 := LP.b0.c64
    have k5 := LP.b0.c65
    unfold put6 at k0 k1 k2 k3 k4 k5
    exact bodyPost_ret (v := .tuple #[.agg #[.bool (ng (mkM a (-(k : Int)))), .slice A8 (zl (mkM a (-(k : Int)))) c8, .int .i64 (mkE a (-(k : Int))), .bool (ng (mkM b (-(k : Int)))), .slice B8 (zl (mkM b (-(k : Int)))) d8, .int .i64 (mkE b (-(k : Int)))], .int .i64 0]) (by simp [results, Tryz.results13, go_sem, k0, k1, k2, k3, k4, k5]) rfl ⟨a, b, hR, _, rfl, isI_n (LP.getN (by simp)) (LP.getN (by simp)), LP.below⟩
  · have d2 : decide (cn < 0) = false := decide_eq_false (by omega)
    go_enter Tryz.func13, Tryz.ntmps13
    have L := ((L0.varI (w.heap.size) (by simp) (ng m) A (zl m) c e (ng m) B (zl m) d e).varI (w.heap.size + 1) (by simp) false none 0 0 0 false none 0 0 0)
    have c10 := L.tl.b0.c60
    have c11 := L.tl.b0.c61
    have c12 := L.tl.b0.c62
    have c13 := L.tl.b0.c63
    have c14 := L.tl.b0.c64
    have c15 := L.tl.b0.c65
    (try go_wp2_with fail)
    refine (HP.out _).mono ?_
    rintro e9 w' ⟨rfl, rfl⟩
    (try go_wp2_with fail)
    refine (G1.out _ _ (isD_n (m := m) (e := e) (s := .slice B (zl m) d) (L.getN (by simp)))).mono ?_
    rintro e w1 ⟨rfl, be⟩
    clear c10 c11 c12 c13 c14 c15
    replace L := L.step be
    clear be
    have c10 := L.tl.b0.c60
    have c11 := L.tl.b0.c61
    have c12 := L.tl.b0.c62
    have c13 := L.tl.b0.c63
    have c14 := L.tl.b0.c64
    have c15 := L.tl.b0.c65
    (try go_wp2_with fail)
    refine (G2.out _ _ (isD_n (m := m) (e := e) (s := .slice A (zl m) c) (L.getN (by simp)))).mono ?_
    rintro e w2 ⟨rfl, be⟩
    clear c10 c11 c12 c13 c14 c15
    replace L := L.step be
    clear be
    have c10 := L.tl.b0.c60
    have c11 := L.tl.b0.c61
    have c12 := L.tl.b0.c62
    have c13 := L.tl.b0.c63
    have c14 := L.tl.b0.c64
    have c15 := L.tl.b0.c65
    (try go_wp2_with fail)
    refine (G3.out _ _ (isI_n (m := m) (e := e) (n := m) (f := e) (s := .slice A (zl m) c) (t := .slice B (zl m) d) (L.getN (by simp)) (L.getN (by simp)))).mono ?_
    rintro e w3 ⟨rfl, be⟩
    clear c10 c11 c12 c13 c14 c15
    replace L := L.step be
    clear be
    (try go_wp2_with fail)
    refine (G4.out _ L.below).mono ?_
    rintro e w4 ⟨v9, rfl, ii, be⟩
    obtain ⟨A1, c1, B1, d1, rfl, ia, ib⟩ := ii.form
    replace L := ((L.step be).n ib).n ia
    clear be ii ia ib
    have hl9 := L.b0.lt
    replace L := L.varI w4.heap.size rfl (ng ML) A1 (zl ML) c1 EL (ng MH) B1 (zl MH) d1 EH
    have c00 := L.b0.c60
    have c01 := L.b0.c61
    have c02 := L.b0.c62
    have c03 := L.b0.c63
    have c04 := L.b0.c64
    have c05 := L.b0.c65
    have c20 := L.tl.tl.b0.c60
    have c21 := L.tl.tl.b0.c61
    have c22 := L.tl.tl.b0.c62
    have c23 := L.tl.tl.b0.c63
    have c24 := L.tl.tl.b0.c64
    have c25 := L.tl.tl.b0.c65
    go_wp2_with fail
    clear c00 c01 c02 c03 c04 c05 c20 c21 c22 c23 c24 c25
    obtain ⟨g0, hg0⟩ : ∃ g9, w4.heap.size = g9 := ⟨_, rfl⟩
    rw [hg0] at L hl9 ⊢
    clear hg0
    have hl_g0 := hl9
    clear hl9
    refine (G5.out _ _ _ (isD_n (m := m) (e := e) (s := .slice A (zl m) c) (L.getN (by simp))) (isD_n (m := ML) (e := EL) (s := .slice A1 (zl ML) c1) (L.getN (by simp))) L.below).mono ?_
    rintro e w5 ⟨s1, ok1, hs1, v9, rfl, iz, be⟩
    obtain ⟨A2, c2, rfl, _, in9⟩ := iz.form
    replace L := (L.step be).n in9
    clear be iz in9
    have hl9 := L.b0.lt
    obtain ⟨M1, hM1⟩ : ∃ z, mkM s1 (-(p : Int)) = z := ⟨_, rfl⟩
    obtain ⟨E1, hE1⟩ : ∃ z, mkE s1 (-(p : Int)) = z := ⟨_, rfl⟩
    rw [hM1] at L ⊢
    rw [hE1]
    have HW1 := Lib.hid (And.intro ok1 (And.intro hs1 (And.intro hM1 hE1)))
    clear ok1 hs1 hM1 hE1
    replace L := L.varD w5.heap.size rfl (ng M1) A2 (zl M1) c2 E1
    have c00 := L.b0.c30
    have c01 := L.b0.c31
    have c02 := L.b0.c32
    replace L := L.varD (w5.heap.size + 1) (by simp) (ng M1) A2 (zl M1) c2 E1
    have d00 := L.tl.tl.tl.tl.b0.c60
    have d01 := L.tl.tl.tl.tl.b0.c61
    have d02 := L.tl.tl.tl.tl.b0.c62
    have d03 := L.tl.tl.tl.tl.b0.c63
    have d04 := L.tl.tl.tl.tl.b0.c64
    have d05 := L.tl.tl.tl.tl.b0.c65
    (try go_wp2_with fail)
    clear c00 c01 c02 d00 d01 d02 d03 d04 d05
    obtain ⟨g1, hg1⟩ : ∃ g9, w5.heap.size = g9 := ⟨_, rfl⟩
    rw [hg1] at L hl9 ⊢
    clear hg1
    have hl_g1 := hl9
    clear hl9
    refine (G6.out _ _ _ (isD_n (m := m) (e := e) (s := .slice A (zl m) c) (L.getN (by simp))) (isD_n (m := m) (e := e) (s := .slice B (zl m) d) (L.getN (by simp)))).mono ?_
    rintro e w6 ⟨rfl, be⟩
    replace L := L.step be
    clear be
    (try go_wp2_with fail)
    refine (G8.out _ L.below).mono ?_
    rintro e w7 ⟨v9, rfl, iz, be⟩
    obtain ⟨A4, c4, rfl, _, in9⟩ := iz.form
    replace L := (L.step be).n in9
    clear be iz in9
    have hl9 := L.b0.lt
    replace L := L.varD w7.heap.size rfl (ng Mu) A4 (zl Mu) c4 Eu
    have c00 := L.b0.c30
    have c01 := L.b0.c31
    have c02 := L.b0.c32
    have c20 := L.tl.tl.b0.c30
    have c21 := L.tl.tl.b0.c31
    have c22 := L.tl.tl.b0.c32
    go_wp2_with fail
    clear c00 c01 c02 c20 c21 c22
    obtain ⟨gm, hgm⟩ : ∃ g9, w7.heap.size = g9 := ⟨_, rfl⟩
    rw [hgm] at L hl9 ⊢
    clear hgm
    have hl_gm := hl9
    clear hl9
    obtain ⟨hmu, heu⟩ := HMU.out
    obtain ⟨hp, hk, hj1, hj2, hL2⟩ := HQ.out
    obtain ⟨ok1, hs1, hM1, hE1⟩ := HW1.out
    have a15 : AbP 32768 (j + 15) := AbP.up (j := 15) (by unfold AbP; decide) (by omega)
    have hpy : -6000 ≤ -(p : Int) ∧ -(p : Int) ≤ 100 := by omega
    have hpc : -4500 ≤ -(p : Int) ∧ -(p : Int) ≤ 0 := by omega
    obtain ⟨r1, r2, r3, _, _⟩ := nxc 10000 hs1 (by omega) hpc (by omega) (by omega)
    obtain ⟨t1, t2, t3, _, _⟩ := nxc 10000 a15 (by omega) hpc (by omega) (by omega)
    obtain ⟨b1, b2, b3⟩ := nx_sub hs1 a15 (by omega) hpy
    have g9 := fun x y W h i (hW : Below w.heap.size w W) => dsub_any (mkM s1 (-(p : Int))) (mkE s1 (-(p : Int))) (mkM 32768 (-(p : Int))) (mkE 32768 (-(p : Int))) x y W h i (by omega) (by omega) (by omega) (by omega) (HT.out W hW)
    rw [b1, b2, b3] at g9
    have al : AbP (s1 - 32768) (j + 16) := by rw [Int.sub_eq_add_neg]; exact hs1.add a15.neg
    obtain ⟨l1, l2, l3, l4, l5⟩ := nxc 10000 al (by omega) hpc (by omega) (by omega)
    obtain ⟨c1', c2', c3'⟩ := nx_add hs1 a15 (by omega) hpy
    have g10 := fun x y W h i (hW : Below w.heap.size w W) => dadd_any (mkM s1 (-(p : Int))) (mkE s1 (-(p : Int))) (mkM 32768 (-(p : Int))) (mkE 32768 (-(p : Int))) x y W h i (by omega) (by omega) (by omega) (by omega) (HT.out W hW)
    rw [c1', c2', c3'] at g10
    have ah : AbP (s1 + 32768) (j + 16) := hs1.add a15
    obtain ⟨h1, h2, h3, h4, h5⟩ := nxc 10000 ah (by omega) hpc (by omega) (by omega)
    obtain ⟨la, _⟩ := lnLo_any hs1
    obtain ⟨_, lb⟩ := lnLo_any hs1
    obtain ⟨ra, _⟩ := nx (x := -(k : Int)) la (by omega) (by omega)
    obtain ⟨rb, _⟩ := nx (x := -(k : Int)) lb (by omega) (by omega)
    have ca := lnLo_cut (S := s1) hp.symm
    have cb := lnHi_cut (S := s1) hp.symm
    have g11 := fun x W h (hW : Below w.heap.size w W) => i10out_yes (mkM (s1 - 32768) (-(p : Int))) (mkE (s1 - 32768) (-(p : Int))) (mkM (s1 + 32768) (-(p : Int))) (mkE (s1 + 32768) (-(p : Int))) (k : Int) x W h (by omega) (by omega) (by omega) (by omega) (by omega) (by omega) (permN (by omega)) (by rw [l5, ca]; exact ra) (by rw [h5, cb]; exact rb) (HT.out W hW)
    rw [l5, h5, ca, cb] at g11
    have hres : k ≤ 160 → (spK m e).natAbs ≤ 3000 → (spK m e).natAbs ≤ 3000 → EnA k (lnLo s1) (dq m e) ∧ EnB k (lnHi s1) (dq m e) ∧ AbP (lnLo s1) (k + 19) ∧ AbP (lnHi s1) (k + 19) := fun h160 q1 q2 => by
      obtain ⟨ej, u1, u2⟩ := hL2 (by omega)
      obtain ⟨x1, x2⟩ := ok1 u1 u2 q1
      obtain ⟨x3, x4⟩ := ok1 u1 u2 q2
      exact ⟨lnLo_en hp.symm x1 x2, lnHi_en hp.symm x3 x4, (lnLo_abs hs1 (by omega)).1, (lnLo_abs hs1 (by omega)).2⟩
    rw [hM1, hE1, hmu, heu] at g9
    rw [hM1, hE1, hmu, heu] at g10
    obtain ⟨a, ha⟩ : ∃ z, lnLo s1 = z := ⟨_, rfl⟩
    obtain ⟨b, hb⟩ : ∃ z, lnHi s1 = z := ⟨_, rfl⟩
    rw [ha, hb] at g11 hres
    have HR := Lib.hid hres
    clear hres ca cb ra rb la lb l1 l2 l3 l4 l5 h1 h2 h3 h4 h5 al ah b1 b2 b3 c1' c2' c3' r1 r2 r3 t1 t2 t3 a15 hpy hpc hmu heu hp hk hj1 hj2 hL2 ok1 hs1 hM1 hE1 ha hb
    generalize mkM (s1 - 32768) (-(p : Int)) = Mo at *
    generalize mkE (s1 - 32768) (-(p : Int)) = Eo at *
    generalize mkM (s1 + 32768) (-(p : Int)) = Mi at *
    generalize mkE (s1 + 32768) (-(p : Int)) = Ei at *
    obtain ⟨Ma, hMa⟩ : ∃ z, mkM a (-(k : Int)) = z := ⟨_, rfl⟩
    obtain ⟨Ea, hEa⟩ : ∃ z, mkE a (-(k : Int)) = z := ⟨_, rfl⟩
    obtain ⟨Nb, hNb⟩ : ∃ z, mkM b (-(k : Int)) = z := ⟨_, rfl⟩
    obtain ⟨Fb, hFb⟩ : ∃ z, mkE b (-(k : Int)) = z := ⟨_, rfl⟩
    rw [hMa, hEa, hNb, hFb] at g11
    have HN := Lib.hid (And.intro (And.intro hMa hEa) (And.intro hNb hFb))
    have G9 := Lib.hid g9
    have G10 := Lib.hid g10
    have G11 := Lib.hid g11
    clear g9 g10 g11 hMa hEa hNb hFb
    refine (G9.out _ _ _ (isD_n (m := M1) (e := E1) (s := .slice A2 (zl M1) c2) (L.getN (by simp))) (isD_n (m := Mu) (e := Eu) (s := .slice A4 (zl Mu) c4) (L.getN (by simp))) L.below).mono ?_
    rintro e w8 ⟨v9, rfl, iz, be⟩
    obtain ⟨A5, c5, rfl, _, in9⟩ := iz.form
    replace L := (L.step be).n in9
    clear be iz in9
    have hl9 := L.b0.lt
    replace L := L.varD w8.heap.size rfl (ng Mo) A5 (zl Mo) c5 Eo
    have c10 := L.tl.b0.c30
    have c11 := L.tl.b0.c31
    have c12 := L.tl.b0.c32
    have c20 := L.tl.tl.b0.c30
    have c21 := L.tl.tl.b0.c31
    have c22 := L.tl.tl.b0.c32
    go_wp2_with fail
    clear c10 c11 c12 c20 c21 c22
    obtain ⟨gl, hgl⟩ : ∃ g9, w8.heap.size = g9 := ⟨_, rfl⟩
    rw [hgl] at L hl9 ⊢
    clear hgl
    have hl_gl := hl9
    clear hl9
    refine (G10.out _ _ _ (isD_n (m := M1) (e := E1) (s := .slice A2 (zl M1) c2) (L.getN (by simp))) (isD_n (m := Mu) (e := Eu) (s := .slice A4 (zl Mu) c4) (L.getN (by simp))) L.below).mono ?_
    rintro e w9 ⟨v9, rfl, iz, be⟩
    obtain ⟨A6, c6, rfl, _, in9⟩ := iz.form
    replace L := (L.step be).n in9
    clear be iz in9
    have hl9 := L.b0.lt
    replace L := L.varD w9.heap.size rfl (ng Mi) A6 (zl Mi) c6 Ei
    have c00 := L.b0.c30
    have c01 := L.b0.c31
    have c02 := L.b0.c32
    have c10 := L.tl.b0.c30
    have c11 := L.tl.b0.c31
    have c12 := L.tl.b0.c32
    go_wp2_with fail
    clear c00 c01 c02 c10 c11 c12
    obtain ⟨gh, hgh⟩ : ∃ g9, w9.heap.size = g9 := ⟨_, rfl⟩
    rw [hgh] at L hl9 ⊢
    clear hgh
    have hl_gh := hl9
    clear hl9
    refine (G11.out _ _ (isI_n (m := Mo) (e := Eo) (n := Mi) (f := Ei) (s := .slice A5 (zl Mo) c5) (t := .slice A6 (zl Mi) c6) (L.getN (by simp)) (L.getN (by simp))) L.below).mono ?_
    rintro e w10 ⟨v2, rfl, ii, be⟩
    obtain ⟨A8, c8, B8, d8, rfl, ia, ib⟩ := ii.form
    replace L := ((L.step be).n ib).n ia
    clear be ii ia ib
    have L9 := L.subx (ns' := [(.slice A8 (zl Ma) c8, Ma.natAbs), (.slice B8 (zl Nb) d8, Nb.natAbs)]) (bs' := [(w.heap.size + 1, 28, #[.bool false, .slice none 0 0, .int .i64 0, .bool false, .slice none 0 0, .int .i64 0])]) (by simp) (by simp)
    clear L
    have L := L9
    clear L9
    have c00 := L.b0.c60
    have f00 := L.b0.fr 0
    have c01 := L.b0.c61
    have f01 := L.b0.fr 1
    have c02 := L.b0.c62
    have f02 := L.b0.fr 2
    have c03 := L.b0.c63
    have f03 := L.b0.fr 3
    have c04 := L.b0.c64
    have f04 := L.b0.fr 4
    have c05 := L.b0.c65
    have f05 := L.b0.fr 5
    go_wp2_with fail
    clear c00 f00 c01 f01 c02 f02 c03 f03 c04 f04 c05 f05
    have hR := HR.out
    obtain ⟨⟨hMa, hEa⟩, hNb, hFb⟩ := HN.out
    subst hMa hEa hNb hFb
    have LP := L.putI (by omega) (by first | (simp; done) | (simp; omega)) (ng (mkM a (-(k : Int)))) A8 (zl (mkM a (-(k : Int)))) c8 (mkE a (-(k : Int))) (ng (mkM b (-(k : Int)))) B8 (zl (mkM b (-(k : Int)))) d8 (mkE b (-(k : Int)))
    have k0 := LP.b0.c60
    have k1 := LP.b0.c61
    have k2 := LP.b0.c62
    have k3 := LP.b0.c63
    have k4 := LP.b0.c64
    have k5 := LP.b0.c65
    unfold put6 at k0 k1 k2 k3 k4 k5
    exact bodyPost_ret (v := .tuple #[.agg #[.bool (ng (mkM a (-(k : Int)))), .slice A8 (zl (mkM a (-(k : Int)))) c8, .int .i64 (mkE a (-(k : Int))), .bool (ng (mkM b (-(k : Int)))), .slice B8 (zl (mkM b (-(k : Int)))) d8, .int .i64 (mkE b (-(k : Int)))], .int .i64 0]) (by simp [results, Tryz.results13, go_sem, k0, k1, k2, k3, k4, k5]) rfl ⟨a, b, hR, _, rfl, isI_n (LP.getN (by simp)) (LP.getN (by simp)), LP.below⟩

theorem n_1 : mkM 1 0 = 1 ∧ mkE 1 0 = 0 := by
  have hv : Dv 1 0 := Or.inr ⟨by decide, by decide +kernel⟩
  exact (dv_mk hv (Nat.le_trans (len_le1 (show 1 < 4294967296 by omega)) (by omega)) (by omega)).2
theorem n_m1 : mkM (-1) 0 = -1 ∧ mkE (-1) 0 = 0 := by
  have hv : Dv (-1) 0 := Or.inr ⟨by decide, by decide +kernel⟩
  exact (dv_mk hv (Nat.le_trans (len_le1 (show (-1 : Int).natAbs < 4294967296 by decide)) (by omega)) (by omega)).2
theorem n_2 : mkM 2 0 = 1 ∧ mkE 2 0 = 1 := by
  obtain ⟨a1, _, _, _, _, a6⟩ := nf (t := 2) (v := 1) (by unfold AbP; decide) (by omega)
  have hv : Dv 1 1 := Or.inr ⟨by decide, by decide +kernel⟩
  exact dv_uniq (mk_ok a1) hv (by rw [a6]; decide +kernel)
theorem n_4 : mkM 4 0 = 1 ∧ mkE 4 0 = 2 := by
  obtain ⟨a1, _, _, _, _, a6⟩ := nf (t := 4) (v := 2) (by unfold AbP; decide) (by omega)
  have hv : Dv 1 2 := Or.inr ⟨by decide, by decide +kernel⟩
  exact dv_uniq (mk_ok a1) hv (by rw [a6]; decide +kernel)
theorem sp_4 : spK 1 2 = 2 ∧ spE 1 = 0 := by
  have h : spN 1 = 1 := blen_of (n := 0) (by decide) (by decide)
  unfold spK spE spB
  rw [h]
  decide
theorem zl_one : zl 1 ≤ 1 := len_le1 (show 1 < 4294967296 by omega)
theorem zl_mone : zl (-1) ≤ 1 := len_le1 (show (-1 : Int).natAbs < 4294967296 by decide)
theorem zl_nil : zl 0 ≤ 1 := len_le1 (show 0 < 4294967296 by omega)

set_option maxHeartbeats 8000000 in
theorem awake15_any (w : World) (hT : Tab w) :
    Calls Tryz.prog 9 #[] w (RetB w true) := by
  have z1 := zl_one
  have z2 := zl_mone
  have z0 := zl_nil
  have g1 := fun W => of15_any 0 1 W (by omega) (by omega)
  rw [nf00.1, nf00.2, n_1.1, n_1.2] at g1
  have g2 := fun v W h => xln_unk 0 0 1 0 5 v W h (by decide) (by omega) (by omega) (by decide) (by omega)
  have g3 := fun W => of15_any (-1) 0 W (by omega) (by omega)
  obtain ⟨q, hq⟩ : ∃ q : Int, (-1 : Int) = q := ⟨_, rfl⟩
  have nq : mkM (-1) 0 = q ∧ mkE (-1) 0 = 0 := by rw [← hq]; exact n_m1
  rw [nf00.1, nf00.2, nq.1, nq.2] at g3
  have g4 := fun v W h => xln_dom q 0 0 0 5 v W h (by decide) (by omega) (by omega)
  clear nq hq
  have g5 := fun W => rof8_any 4 W (by omega) (by omega)
  rw [n_4.1, n_4.2] at g5
  have hv : Dv 1 2 := Or.inr ⟨by decide, by decide +kernel⟩
  have g6 := fun v W h (hW : Below w.heap.size w W) => lsplit_any 1 2 v W h (by decide) hv (by omega) (by omega) (hT.mono hW)
  rw [sp_4.1, sp_4.2] at g6
  have g7 := fun W => rof8_any 1 W (by omega) (by omega)
  rw [n_1.1, n_1.2] at g7
  have g8 : ∀ v u W, IsD W v 1 0 → IsD W u 1 0 → Calls Tryz.prog 30 #[v, u] W (RetB W true) := fun v u W h k => by
    have s := same8_any 1 0 1 0 v u W h k
    rwa [show (decide ((0 : Int) = 0) && decide ((1 : Int) = 1)) = true from by decide] at s
  clear hv hT
  have G1 := Lib.hid g1
  have G2 := Lib.hid g2
  have G3 := Lib.hid g3
  have G4 := Lib.hid g4
  have G5 := Lib.hid g5
  have G6 := Lib.hid g6
  have G7 := Lib.hid g7
  have G8 := Lib.hid g8
  clear g1 g2 g3 g4 g5 g6 g7 g8
  go_enter Tryz.func9, Tryz.ntmps9
  go_wp2_with fail
  have L := Lq.mk0 w
  (try go_wp2_with fail)
  refine (G1.out _).mono ?_
  rintro e w1 ⟨vv, rfl, ii, be⟩
  obtain ⟨A1, c1, B1, d1, rfl, ia, ib⟩ := ii.form
  replace L := ((L.step be).n ib).n ia
  clear be ii ia ib
  have hl2 := L.below.size
  (try go_wp2_with fail)
  refine (G2.out _ _ (isI_n (m := 0) (e := 0) (n := 1) (f := 0) (s := .slice A1 (zl 0) c1) (t := .slice B1 (zl 1) d1) (L.getN (by simp)) (L.getN (by simp)))).mono ?_
  rintro e w2 ⟨vv, rfl, ii, be⟩
  obtain ⟨A2, c2, B2, d2, rfl, ia, ib⟩ := ii.form
  replace L := ((L.step be).n ib).n ia
  clear be ii ia ib hl2
  have hl2 := L.below.size
  replace L := L.varI w2.heap.size rfl (ng 0) A2 (zl 0) c2 0 (ng 0) B2 (zl 0) d2 0
  have cel00 := L.b0.c60
  have f00 := L.b0.fr 0
  have cel01 := L.b0.c61
  have f01 := L.b0.fr 1
  have cel02 := L.b0.c62
  have f02 := L.b0.fr 2
  have cel03 := L.b0.c63
  have f03 := L.b0.fr 3
  have cel04 := L.b0.c64
  have f04 := L.b0.fr 4
  have cel05 := L.b0.c65
  have f05 := L.b0.fr 5
  go_wp2_with fail
  clear cel00 f00 cel01 f01 cel02 f02 cel03 f03 cel04 f04 cel05 f05
  obtain ⟨b1, hb1⟩ : ∃ g9, w2.heap.size = g9 := ⟨_, rfl⟩
  rw [hb1] at L hl2 ⊢
  clear hb1
  refine (G3.out _).mono ?_
  rintro e w3 ⟨vv, rfl, ii, be⟩
  obtain ⟨A3, c3, B3, d3, rfl, ia, ib⟩ := ii.form
  replace L := ((L.step be).n ib).n ia
  clear be ii ia ib
  clear hl2
  have hl2 := L.b0.lt
  (try go_wp2_with fail)
  refine (G4.out _ _ (isI_n (m := q) (e := 0) (n := 0) (f := 0) (s := .slice A3 (zl q) c3) (t := .slice B3 (zl 0) d3) (L.getN (by simp)) (L.getN (by simp)))).mono ?_
  rintro e w4 ⟨vv, rfl, ii, be⟩
  obtain ⟨A4, c4, B4, d4, rfl, ia, ib⟩ := ii.form
  replace L := ((L.step be).n ib).n ia
  clear be ii ia ib hl2
  have hl2 := L.b0.lt
  replace L := L.varI w4.heap.size rfl (ng 0) A4 (zl 0) c4 0 (ng 0) B4 (zl 0) d4 0
  have cel00 := L.b0.c60
  have f00 := L.b0.fr 0
  have cel01 := L.b0.c61
  have f01 := L.b0.fr 1
  have cel02 := L.b0.c62
  have f02 := L.b0.fr 2
  have cel03 := L.b0.c63
  have f03 := L.b0.fr 3
  have cel04 := L.b0.c64
  have f04 := L.b0.fr 4
  have cel05 := L.b0.c65
  have f05 := L.b0.fr 5
  go_wp2_with fail
  clear cel00 f00 cel01 f01 cel02 f02 cel03 f03 cel04 f04 cel05 f05
  obtain ⟨b2, hb2⟩ : ∃ g9, w4.heap.size = g9 := ⟨_, rfl⟩
  rw [hb2] at L hl2 ⊢
  clear hb2
  refine (G5.out _).mono ?_
  rintro e w5 ⟨v9, rfl, iz, be⟩
  obtain ⟨A5, c5, rfl, _, in9⟩ := iz.form
  replace L := (L.step be).n in9
  clear be iz in9
  (try go_wp2_with fail)
  refine (G6.out _ _ (isD_n (m := 1) (e := 2) (s := .slice A5 (zl 1) c5) (L.getN (by simp))) L.below).mono ?_
  rintro e w6 ⟨v9, rfl, iz, be⟩
  obtain ⟨A6, c6, rfl, _, in9⟩ := iz.form
  replace L := (L.step be).n in9
  clear be iz in9
  have hl9 := L.b0.lt
  clear hl2
  have hl2 := hl9
  clear hl9
  replace L := L.varD w6.heap.size rfl (ng 1) A6 (zl 1) c6 0
  have cel00 := L.b0.c30
  have f00 := L.b0.fr 0
  have cel01 := L.b0.c31
  have f01 := L.b0.fr 1
  have cel02 := L.b0.c32
  have f02 := L.b0.fr 2
  go_wp2_with fail
  clear cel00 f00 cel01 f01 cel02 f02
  obtain ⟨b3, hb3⟩ : ∃ g9, w6.heap.size = g9 := ⟨_, rfl⟩
  rw [hb3] at L hl2 ⊢
  clear hb3
  replace L := L.drew
  have cel00 := L.b0.c30
  have cel01 := L.b0.c31
  have cel02 := L.b0.c32
  go_region_held3 (fun w' => w'.cell? ⟨b3, 0, none⟩ = some (.bool (ng 1)) ∧ w'.cell? ⟨b3, 1, none⟩ = some (.slice A6 (zl 1) c6) ∧ w'.cell? ⟨b3, 2, none⟩ = some (.int .i64 0)) (first | (with_reducible exact ⟨L.b0.c30, L.b0.c31, L.b0.c32⟩) | exact ⟨L.b0.c30, L.b0.c31, L.b0.c32⟩) (first | (go_at_call 31; (with_reducible refine (G7.out _ ).mono ?_); rintro e wh ⟨vh, rfl, id, be⟩; obtain ⟨A7, c7, rfl, _, in9⟩ := id.form; replace L := (L.step be).n in9; clear be id in9) | (go_at_call 30; (with_reducible refine (G8.out _ _ _ ?_ ?_ ).mono ?_); (· (refine isD_n (L.getN ?_); (repeat (first | (with_reducible exact List.mem_cons_self) | apply List.mem_cons_of_mem)))); (· (refine isD_n (L.getN ?_); (repeat (first | (with_reducible exact List.mem_cons_self) | apply List.mem_cons_of_mem)))); rintro e wh ⟨rfl, be⟩; replace L := L.step be; clear be))
  (try go_wp2_with fail)
  (try go_ret)
  exact ⟨rfl, L.below⟩

theorem ExR.sz {X : Int} {p k : Nat} {T S : Int} (h : ExR X p k T S) (hp : p ≤ 700) : AbP T p ∧ AbP S (p + 6) ∧ k ≤ 60 := by
  have h1 := h.fk
  have h2 := h.sa
  refine ⟨h.ta, ?_, by omega⟩
  unfold AbP
  rw [Nat.pow_add, show (2 : Nat) ^ 6 = 64 by decide, Nat.mul_comm]
  exact Nat.le_trans h2 (Nat.mul_le_mul_right _ (by omega))

/-- What a power is: not further off than 2^-(k + 20). -/
def RetPw (w : World) (k : Nat) (m e : Int) (en : Ending) (w' : World) : Prop := ∃ (s : Int) (p : Nat), p ≤ 700 ∧ AbP s 1100 ∧ 0 ≤ s ∧ LoE (dq s (-(p : Int)) - dq 1 (-((k : Int) + 20))) (dq m e) ∧ UpE (dq m e) (dq s (-(p : Int)) + dq 1 (-((k : Int) + 20))) ∧ RetD8 w (mkM s (-(p : Int))) (mkE s (-(p : Int))) en w'
theorem RetPw.zero {w : World} {k : Nat} {m e : Int} {en : Ending} {w' : World} (h : dq m e < -4096) (hk : k ≤ 220) (r : RetD8 w 0 0 en w') : RetPw w k m e en w' := by
  have hu := dq_pos (-((k : Int) + 20))
  refine ⟨0, 0, by omega, AbP.zero _, by omega, (LoE.zero _).down ?_, (pfar_up (Rat.le_of_lt h) (w := k) (by omega)).up ?_, ?_⟩
  · rw [dq_zero]
    generalize dq 1 (-((k : Int) + 20)) = u at *
    grind
  · rw [dq_zero]
    generalize dq 1 (-((k : Int) + 20)) = u at *
    grind
  · rw [show (-((0 : Nat) : Int)) = 0 from rfl, nf00.1, nf00.2]
    exact r
/-- What Exp returns: an interval from a to b in units of 2^-k. -/
def RetEp (w : World) (k : Nat) (m e n f : Int) (en : Ending) (w' : World) : Prop := ∃ a b : Int, (0 ≤ a ∧ AbP a (k + 302) ∧ LoE (dq a (-(k : Int))) (dq m e) ∧ UpE (dq m e) (dq a (-(k : Int)) + 2 * dq 1 (-(k : Int)))) ∧
  (AbP b (k + 302) ∧ LoE (dq b (-(k : Int)) - 2 * dq 1 (-(k : Int))) (dq n f) ∧ UpE (dq n f) (dq b (-(k : Int)))) ∧ RetIE w (mkM a (-(k : Int))) (mkE a (-(k : Int))) (mkM b (-(k : Int))) (mkE b (-(k : Int))) 0 en w'
theorem unit_up (k j : Nat) : dq 1 (j : Int) = dq (2 ^ (k + j)) (-(k : Int)) := by
  refine dq_eq (F := -(k : Int)) ?_ (by omega) (by omega)
  rw [show ((j : Int) - -(k : Int)).toNat = k + j by omega, show (-(k : Int) - -(k : Int)).toNat = 0 by omega]
  simp
/-- An interval whose ends, on the grid of j, enclose the exponential of x. -/
def RetEx (w : World) (x : Rat) (j : Nat) (en : Ending) (w' : World) : Prop := ∃ a b, RetI6 w (mkM a (-(j : Int))) (mkE a (-(j : Int))) (mkM b (-(j : Int))) (mkE b (-(j : Int))) en w' ∧ LoE (dq a (-(j : Int))) x ∧ UpE x (dq b (-(j : Int))) ∧ AbP a 60000 ∧ AbP b 60000
theorem RetEx.mk {w w' : World} {x : Rat} {j : Nat} {en : Ending} {M E N F : Int} (h : ∃ a b, mkM a (-(j : Int)) = M ∧ mkE a (-(j : Int)) = E ∧ mkM b (-(j : Int)) = N ∧ mkE b (-(j : Int)) = F ∧ LoE (dq a (-(j : Int))) x ∧ UpE x (dq b (-(j : Int))) ∧ AbP a 60000 ∧ AbP b 60000) (hr : RetI6 w M E N F en w') : RetEx w x j en w' := by
  obtain ⟨a, b, rfl, rfl, rfl, rfl, h⟩ := h
  exact ⟨a, b, hr, h⟩

/-- What is known of a result: its lower and upper end, in units of 2^-k. -/
def EpA (k : Nat) (a : Int) (x : Rat) : Prop := 0 ≤ a ∧ AbP a (k + 302) ∧ LoE (dq a (-(k : Int))) x ∧ UpE x (dq a (-(k : Int)) + 2 * dq 1 (-(k : Int)))
def EpB (k : Nat) (b : Int) (x : Rat) : Prop := AbP b (k + 302) ∧ LoE (dq b (-(k : Int)) - 2 * dq 1 (-(k : Int))) x ∧ UpE x (dq b (-(k : Int)))
/-- Of an enclosure of the reference. -/
def ExB (j : Nat) (a b : Int) (x : Rat) : Prop := LoE (dq a (-(j : Int))) x ∧ UpE x (dq b (-(j : Int))) ∧ AbP a 60000 ∧ AbP b 60000
/-- What Exp of a valid interval returns, as the laws use it. -/
theorem RetEp.ab {w : World} {k : Nat} {m e n f : Int} {en : Ending} {w' : World} (h : RetEp w k m e n f en w') : ∃ a b : Int, EpA k a (dq m e) ∧ EpB k b (dq n f) ∧ RetIE w (mkM a (-(k : Int))) (mkE a (-(k : Int))) (mkM b (-(k : Int))) (mkE b (-(k : Int))) 0 en w' := by
  obtain ⟨a, b, h1, h2, h3⟩ := h
  exact ⟨a, b, h1, h2, h3⟩
theorem RetEx.ab {w : World} {x : Rat} {j : Nat} {en : Ending} {w' : World} (h : RetEx w x j en w') : ∃ a b : Int, ExB j a b x ∧ RetI6 w (mkM a (-(j : Int))) (mkE a (-(j : Int))) (mkM b (-(j : Int))) (mkE b (-(j : Int))) en w' := by
  obtain ⟨a, b, h1, h2⟩ := h
  exact ⟨a, b, h2, h1⟩
theorem small14 {m e n f : Int} (lm : zl m ≤ 60) (ln : zl n ≤ 60) (he : -8000 ≤ e ∧ e ≤ 3000) (hf : -8000 ≤ f ∧ f ≤ 3000) (hle : dcm m e n f ≤ 0) (tm : topZ m e ≤ 2048) (tn : topZ n f ≤ 2048) : smallB m e n f = true := by
  have p8 : permB 8192 = true := by decide
  unfold smallB onB
  rw [p8, decide_eq_true hle, decide_eq_true tm, decide_eq_true tn, decide_eq_true (show -8192 ≤ e by omega), decide_eq_true (show -8192 ≤ f by omega)]
  simp


theorem plainL2 (N0 N1 : Int) : Plain #[.int .i64 N0, .int .i64 N1] := fun j x => by
  match j with
  | 0 => simp
  | 1 => simp
  | j + 2 => simp
theorem top_ub {m e : Int} {z : Nat} (hz : zl m ≤ z) (he : e ≤ 1000) (hb : 32 * (z : Int) + 1000 ≤ 2048) : topZ m e ≤ 2048 := by
  have h := blen_le_len m.natAbs
  have e1 : zl m = len m.natAbs := rfl
  unfold topZ
  split <;> omega
theorem small15 {m e n f : Int} (zm : zl m ≤ 32) (zn : zl n ≤ 32) (he : -8000 ≤ e ∧ e ≤ 1000) (hf : -8000 ≤ f ∧ f ≤ 1000) (hle : dcm m e n f ≤ 0) : smallB m e n f = true :=
  small14 (by omega) (by omega) (by omega) (by omega) hle (top_ub zm (by omega) (by omega)) (top_ub zn (by omega) (by omega))
theorem ArgL.small {m e n f : Int} (h : ArgL m e n f) : smallB m e n f = true := by
  obtain ⟨_, _, _, h4, h5, h6, h7, h8⟩ := h
  exact small15 (by omega) (by omega) (by omega) (by omega) ((dcm_le _ _ _ _).2 h4)
theorem ArgL.sp {m e n f : Int} (h : ArgL m e n f) : (spK m e).natAbs ≤ 3000 ∧ (spK n f).natAbs ≤ 3000 := by
  obtain ⟨_, _, _, h4, h5, h6, h7, h8⟩ := h
  obtain ⟨_, _, a, b⟩ := sp_rng (m := m) (e := e) h5
  obtain ⟨_, _, c, d⟩ := sp_rng (m := n) (e := f) h6
  omega


section
open Go.ChangeShapes Go.WideShapes Go.ChangeAt

theorem open_slice8 {H : Type} {enc : TypeId × Value → H} {W : World} {base : Nat} {fuel : Nat} {v : Value} {x : DataW H × List MemPlace} (h : DataW.trod enc Tryz.prog W base (fun _ => true) true fuel 22 [v] = some x) : ∃ a n c l, v = .slice a n c ∧ Sl W a n c l := by
  rcases open_ints Tryz.underlying22 Tryz.underlying137 (by kernel_rfl) h with ⟨hcs, _⟩ | ⟨x, l, c, zs, hcs, _, hl, hm, hz, _, hcell, hwz⟩
  · exact ⟨none, 0, 0, [], by simpa using hcs, Sl.nil W⟩
  · exact ⟨_, _, _, _, by simpa using hcs, sl_of_ints hl hm (by simpa using hz) hcell hwz⟩
end
section
open Go.ChangeShapes Go.WideShapes Go.ChangeAt

theorem array6 {a : Array Value} (h : a.size = 6) : ∃ x0 x1 x2 x3 x4 x5, a = #[x0, x1, x2, x3, x4, x5] := by
  obtain ⟨l⟩ := a
  rcases l with _ | ⟨x0, _ | ⟨x1, _ | ⟨x2, _ | ⟨x3, _ | ⟨x4, _ | ⟨x5, _ | ⟨x6, l⟩⟩⟩⟩⟩⟩⟩ <;> first | exact ⟨_, _, _, _, _, _, rfl⟩ | (exfalso; simp at h)
theorem open_dy3 {H : Type} {enc : TypeId × Value → H} {W : World} {base n : Nat} {c0 c1 c2 : Value} {y : DataW H × List MemPlace} (h : DataW.trod enc Tryz.prog W base (fun _ => true) true n 26 [c0, c1, c2] = some y) :
    ∃ b A p c l e, c0 = .bool b ∧ c1 = .slice A p c ∧ c2 = .int .i64 e ∧ Sl W A p c l ∧ -9223372036854775808 ≤ e ∧ e ≤ 9223372036854775807 := by
  obtain ⟨y0, y1, n, _, _, h0, h1⟩ := trod_struct2 Tryz.underlying26 h
  have e0 : Tryz.prog.cellsOf 24 = 2 := by kernel_rfl
  have e1 : Tryz.prog.cellsOf 22 = 1 := by kernel_rfl
  have e3 : Tryz.prog.cellsOf 3 = 1 := by kernel_rfl
  have h0' : DataW.trod enc Tryz.prog W base (fun _ => true) true n 24 [c0, c1] = some y0 := by
    simpa [Value.cells, e0] using h0
  have h1' : DataW.trod enc Tryz.prog W base (fun _ => true) true n 3 [c2] = some y1 := by
    simpa [Value.cells, e0, e3] using h1
  obtain ⟨z0, z1, n2, _, _, g0, g1⟩ := trod_struct2 Tryz.underlying24 h0'
  have e2 : Tryz.prog.cellsOf 4 = 1 := by kernel_rfl
  have g0' : DataW.trod enc Tryz.prog W base (fun _ => true) true n2 4 [c0] = some z0 := by
    simpa [e2] using g0
  have g1' : DataW.trod enc Tryz.prog W base (fun _ => true) true n2 22 [c1] = some z1 := by
    simpa [e1, e2] using g1
  obtain ⟨b, hb, _⟩ := DataW.trod_bool Tryz.underlying4 g0'
  obtain rfl : c0 = .bool b := by simpa using hb
  obtain ⟨A, n3, c3, l, rfl, s1⟩ := open_slice8 g1'
  obtain ⟨e, he, _, hw⟩ := DataW.trod_int Tryz.underlying3 h1'
  obtain rfl : c2 = .int .i64 e := by simpa using he
  obtain ⟨k1, k2⟩ := bounds_i64 hw
  exact ⟨b, A, n3, c3, l, e, rfl, rfl, rfl, s1, k1, k2⟩
theorem open_iv {H : Type} {enc : TypeId × Value → H} {W : World} {r : Reach} {b0 base : Nat} {v : Value} {d : DataW H} {p : List MemPlace} (hv : Value.okWide Tryz.prog W r b0 28 v) (h : DataW.Trod enc Tryz.prog W base (fun _ => true) true 28 v d p) :
    ∃ b A n c l e b' A' n' c' l' e', v = .agg #[.bool b, .slice A n c, .int .i64 e, .bool b', .slice A' n' c', .int .i64 e'] ∧ (Sl W A n c l ∧ -9223372036854775808 ≤ e ∧ e ≤ 9223372036854775807) ∧ (Sl W A' n' c' l' ∧ -9223372036854775808 ≤ e' ∧ e' ≤ 9223372036854775807) := by
  obtain ⟨cs, rfl, hsz⟩ := okWide_struct Tryz.underlying28 hv
  obtain ⟨c0, c1, c2, c3, c4, c5, rfl⟩ := array6 (hsz.trans (show Tryz.prog.cellsOf 28 = 6 by kernel_rfl))
  obtain ⟨fuel, hf⟩ := h
  obtain ⟨y0, y1, n, _, _, h0, h1⟩ := trod_struct2 Tryz.underlying28 hf
  have e0 : Tryz.prog.cellsOf 26 = 3 := by kernel_rfl
  have h0' : DataW.trod enc Tryz.prog W base (fun _ => true) true n 26 [c0, c1, c2] = some y0 := by
    simpa [Value.cells, e0] using h0
  have h1' : DataW.trod enc Tryz.prog W base (fun _ => true) true n 26 [c3, c4, c5] = some y1 := by
    simpa [Value.cells, e0] using h1
  obtain ⟨b, A, n1, k, l, e, rfl, rfl, rfl, q1⟩ := open_dy3 h0'
  obtain ⟨b', A', n1', k', l', e', rfl, rfl, rfl, q2⟩ := open_dy3 h1'
  exact ⟨b, A, n1, k, l, e, b', A', n1', k', l', e', rfl, q1, q2⟩

end
/-- An argument of a law: valid, not long, and less than 2^B. -/
structure ArgX (B m e n f : Int) : Prop where
  vm : Dv m e
  vn : Dv n f
  le : dq m e ≤ dq n f
  zm : zl m ≤ 60
  zn : zl n ≤ 60
  em : -3000 ≤ e ∧ e ≤ 3000
  en : -3000 ≤ f ∧ f ≤ 3000
  lo : -dq 1 B ≤ dq m e
  hi : dq n f ≤ dq 1 B
theorem ArgX.of {j : Nat} {m e n f B : Int} (h : ArgR j m e n f) (hj : j ≤ 13) (t1 : topZ m e ≤ B) (t2 : topZ n f ≤ B) : ArgX B m e n f := by
  obtain ⟨s1, s2⟩ := h.small (by omega)
  obtain ⟨a1, _⟩ := top_bd m e
  obtain ⟨_, b2⟩ := top_bd n f
  exact ⟨h.vm, h.vn, h.le, Nat.le_trans h.zm (by omega), Nat.le_trans h.zn (by omega), by omega, by omega, Rat.le_trans (Rat.neg_le_neg (dq_anti t1)) a1, Rat.le_trans b2 (dq_anti t2)⟩
theorem ArgX.all {B m e n f : Int} (h : ArgX B m e n f) (hB : B ≤ 8) : smallB m e n f = true ∧ topZ m e ≤ 11 ∧ topZ n f ≤ 11 ∧ -256 ≤ dq m e ∧ dq n f ≤ 256 := by
  have v8 : dq 1 8 = 256 := by decide +kernel
  have v11 : dq 1 11 = 2048 := by decide +kernel
  have hb := dq_anti hB
  rw [v8] at hb
  have l1 : -256 ≤ dq m e := Rat.le_trans (Rat.neg_le_neg hb) h.lo
  have l2 : dq n f ≤ 256 := Rat.le_trans h.hi hb
  have l3 := h.le
  have tm : topZ m e ≤ 11 := by
    refine (top_iff (by omega)).2 ?_
    rw [v11]
    generalize dq m e = p at *
    generalize dq n f = q at *
    clear h hb
    constructor <;> grind
  have tn : topZ n f ≤ 11 := by
    refine (top_iff (by omega)).2 ?_
    rw [v11]
    generalize dq m e = p at *
    generalize dq n f = q at *
    clear h hb
    constructor <;> grind
  have em := h.em
  have en := h.en
  exact ⟨small14 h.zm h.zn (by omega) (by omega) ((dcm_le _ _ _ _).2 h.le) (by omega) (by omega), tm, tn, l1, l2⟩
/-- An enclosure of numbers that are not too large. -/
theorem en14 {lo hi : Rat} {k J : Nat} (hk : k ≤ 400) (hJ : J ≤ 700) (h1 : -dq 1 (J : Int) ≤ lo) (h2 : hi ≤ dq 1 (J : Int)) (hle : lo ≤ hi) : ∃ S1 S2 : Int,
    (∀ W, RetEn W lo hi (k : Int) = RetIE W (mkM S1 (-(k : Int))) (mkE S1 (-(k : Int))) (mkM S2 (-(k : Int))) (mkE S2 (-(k : Int))) 0) ∧ AbP S1 (k + J) ∧ AbP S2 (k + J) ∧
    dq S1 (-(k : Int)) ≤ lo ∧ lo ≤ dq S1 (-(k : Int)) + dq 1 (-(k : Int)) ∧ hi ≤ dq S2 (-(k : Int)) ∧ dq S2 (-(k : Int)) ≤ hi + dq 1 (-(k : Int)) := by
  have c1 := cut_lo lo (k : Int)
  have c2 := cut_hi lo (k : Int)
  have c3 := cut_lo (-hi) (k : Int)
  have c4 := cut_hi (-hi) (k : Int)
  obtain ⟨S1, hS1⟩ : ∃ z, cutQ lo (k : Int) = z := ⟨_, rfl⟩
  obtain ⟨S2, hS2⟩ : ∃ z, -(cutQ (-hi) (k : Int)) = z := ⟨_, rfl⟩
  rw [hS1] at c1 c2
  rw [show cutQ (-hi) (k : Int) = -S2 by omega, dq_neg] at c3 c4
  have eJ := unit_up k J
  have b1 : S1 ≤ 2 ^ (k + J) := (dq_le_iff _ _ (-(k : Int))).1 (by
    rw [← eJ]
    exact Rat.le_trans c1 (Rat.le_trans hle h2))
  have b2 : -(2 ^ (k + J)) - 1 < S1 := by
    refine Int.not_le.1 fun h => ?_
    have h9 := (dq_le_iff (S1 + 1) (-(2 ^ (k + J))) (-(k : Int))).2 (by omega)
    rw [dq_neg, ← eJ, dq_succ] at h9
    generalize dq 1 (J : Int) = P at *
    generalize dq 1 (-(k : Int)) = u at *
    generalize dq S1 (-(k : Int)) = s at *
    clear c3 c4 hS1 hS2
    grind
  have b3 : -(2 ^ (k + J)) ≤ S2 := (dq_le_iff _ _ (-(k : Int))).1 (by
    rw [dq_neg, ← eJ]
    generalize dq 1 (J : Int) = P at *
    generalize dq S2 (-(k : Int)) = s at *
    clear c1 c2 c4 hS1 hS2
    grind)
  have b4 : S2 < 2 ^ (k + J) + 1 := by
    refine Int.not_le.1 fun h => ?_
    have h9 := (dq_le_iff (2 ^ (k + J) + 1) S2 (-(k : Int))).2 h
    rw [dq_succ, ← eJ] at h9
    generalize dq 1 (J : Int) = P at *
    generalize dq 1 (-(k : Int)) = u at *
    generalize dq S2 (-(k : Int)) = s at *
    clear c1 c2 c3 hS1 hS2
    grind
  have eP : (((2 : Nat) ^ (k + J) : Nat) : Int) = 2 ^ (k + J) := by simp
  rw [← eP] at b1 b2 b3 b4
  have a1 : AbP S1 (k + J) := by unfold AbP; omega
  have a2 : AbP S2 (k + J) := by unfold AbP; omega
  have z1 := a1.zl
  have z2 := a2.zl
  have hwk : workB (k : Int) = true := by
    unfold workB
    rw [decide_eq_true (show (0 : Int) ≤ (k : Int) by omega), decide_eq_true (show (k : Int) ≤ 4096 by omega)]
    rfl
  have hr := RetEn.ok (lo := lo) (hi := hi) hwk (z := 40) (by rw [hS1]; omega) (by rw [hS2]; omega) (by omega) hle
  refine ⟨S1, S2, fun W => ?_, a1, a2, c1, Rat.le_of_lt c2, ?_, ?_⟩
  · rw [hr W]
    unfold enM enE upM upE
    rw [hS1, hS2]
  · generalize dq S2 (-(k : Int)) = s at *
    clear c1 c2 c4 hr
    grind
  · generalize dq S2 (-(k : Int)) = s at *
    generalize dq 1 (-(k : Int)) = u at *
    clear c1 c2 c3 hr
    grind
theorem icm_meet15 {m e n f m2 e2 n2 f2 : Int} (h1 : dq m2 e2 ≤ dq n f) (h2 : dq m e ≤ dq n2 f2) : icm m e n f m2 e2 n2 f2 = 0 := by
  have h3 : dcm m2 e2 n f ≤ 0 := (dcm_le _ _ _ _).2 h1
  have h4 : dcm m e n2 f2 ≤ 0 := (dcm_le _ _ _ _).2 h2
  have h5 := dcm_swap m2 e2 n f
  unfold icm
  (repeat' split) <;> omega
theorem EnA.ab {k : Nat} {a b : Int} {x y : Rat} (ha : EnA k a x) (hb : EnB k b y) (hxy : x ≤ y) : dq a (-(k : Int)) ≤ dq b (-(k : Int)) := ln_mono ha.1 hb.2 hxy
theorem ArgL.hi256 {m e n f : Int} (h : ArgL m e n f) : dq n f ≤ dq 1 256 := by
  obtain ⟨_, b⟩ := top_bd n f
  refine Rat.le_trans b (dq_anti ?_)
  have h1 := blen_le_len n.natAbs
  have e1 : zl n = len n.natAbs := rfl
  have h2 := h.zn
  have h3 := h.en
  unfold topZ
  split <;> omega
/-- Numbers on a grid, from 0 to 80: what the laws ask of them. -/
theorem gr15 {T : Int} {k j : Nat} (h : AbP T j) (hj : j ≤ 500) (hk : k ≤ 200) : zl (mkM T (-(k : Int))) ≤ 16 ∧ (-200 ≤ mkE T (-(k : Int)) ∧ mkE T (-(k : Int)) ≤ 532) ∧ Dv (mkM T (-(k : Int))) (mkE T (-(k : Int))) ∧ dq (mkM T (-(k : Int))) (mkE T (-(k : Int))) = dq T (-(k : Int)) := by
  obtain ⟨a1, a2, a3, a4, a5⟩ := nx (x := -(k : Int)) h (by omega) (by omega)
  exact ⟨by omega, by omega, a4, a5⟩

end Go.Proofs.YtmlddkiccjpoeaaGreatDoor
