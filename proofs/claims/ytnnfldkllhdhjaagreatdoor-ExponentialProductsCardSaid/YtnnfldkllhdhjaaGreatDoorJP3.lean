/- Joined: ExPE, Awake14, ExG, ExL, ExJ, DyOpen, IvOpen (what the law leans on). -/
import Derived.Test.YtnnfldkllhdhjaaGreatDoorBaseIP
import Derived.Test.YtnnfldkllhdhjaaGreatDoorBaseDP
import Derived.Test.YtnnfldkllhdhjaaGreatDoorBaseEP
import Derived.Test.YtnnfldkllhdhjaaGreatDoorBaseMP
import Derived.Test.YtnnfldkllhdhjaaGreatDoorBaseVP
import Derived.Test.YtnnfldkllhdhjaaGreatDoorBaseFP
import Derived.Test.YtnnfldkllhdhjaaGreatDoorBaseWP
import Derived.Test.YtnnfldkllhdhjaaGreatDoorBaseXP
import Derived.Test.YtnnfldkllhdhjaaGreatDoorBaseZP
import Derived.Test.YtnnfldkllhdhjaaGreatDoorJP2
import Derived.ChangeOld
import Derived.Deep.DrawnRows
import Derived.Deep.LoopGhost
import Derived.Deep.RegionHeld3
import Derived.Lib.SmallJoins
import Derived.OpenShut
import Derived.ProofKit
namespace Go.Proofs.YtnnfldkllhdhjaaGreatDoor
open Go.RowKit
set_option linter.unusedVariables false
set_option linter.unusedSimpArgs false
set_option maxRecDepth 100000
attribute [local go_sem ↓] Go.wp_at_zero Go.wp_at_succ

set_option maxHeartbeats 4000000 in
theorem xexp_arg (m e n f k : Int) (vx : Value) (w : World) (hx : IsI w vx m e n f) (hk : okX k 0 = false) :
    Calls Tryz.prog 14 #[vx, .int .i64 k] w (RetIE w 0 0 0 0 1) := by
  obtain ⟨A, c, B, d, rfl, hn1, hn2⟩ := hx.form
  have L0 := ((Lq.mk0 w).n hn2).n hn1
  have HP0 := fun W => xperm_any k 0 W
  rw [hk] at HP0
  have HP := Lib.hid HP0
  clear HP0 hx
  go_enter Tryz.func14, Tryz.ntmps14
  have L := ((L0.varI (w.heap.size) (by simp) (ng m) A (zl m) c e (ng n) B (zl n) d f).varI (w.heap.size + 1) (by simp) false none 0 0 0 false none 0 0 0)
  have c00 := L.b0.c60
  have f00 := L.b0.fr 0
  have c01 := L.b0.c61
  have f01 := L.b0.fr 1
  have c02 := L.b0.c62
  have f02 := L.b0.fr 2
  have c03 := L.b0.c63
  have f03 := L.b0.fr 3
  have c04 := L.b0.c64
  have f04 := L.b0.fr 4
  have c05 := L.b0.c65
  have f05 := L.b0.fr 5
  (try go_wp2_with fail)
  refine (HP.out _).mono ?_
  rintro e9 w' ⟨rfl, rfl⟩
  (try go_wp2_with fail)
  exact bodyPost_ret (v := .tuple #[.agg #[.bool false, .slice none 0 0, .int .i64 0, .bool false, .slice none 0 0, .int .i64 0], .int .i64 1]) (by simp [results, Tryz.results14, go_sem, c00, c01, c02, c03, c04, c05]) rfl ⟨_, rfl, isI_zero _, L.below⟩
set_option maxHeartbeats 8000000 in
theorem xexp_large (m e n f : Int) (k : Nat) (vx : Value) (w : World) (hx : IsI w vx m e n f) (lm : zl m ≤ 100) (ln : zl n ≤ 100) (he : -10000 ≤ e ∧ e ≤ 3000) (hf : -10000 ≤ f ∧ f ≤ 3000) (hv : Dv m e) (hv2 : Dv n f) (hsm : smallB m e n f = true) (hk : k ≤ 4096) (hl : ¬ dq n f ≤ 1000) (hT : Tab w) :
    Calls Tryz.prog 14 #[vx, .int .i64 (k : Int)] w (RetIE w 0 0 0 0 3) := by
  obtain ⟨A, c, B, d, rfl, hn1, hn2⟩ := hx.form
  have L0 := ((Lq.mk0 w).n hn2).n hn1
  have HP0 := fun W => xperm_any (k : Int) 0 W
  have hok : okX (k : Int) 0 = true := by
    unfold okX
    rw [decide_eq_true (show (0 : Int) ≤ (k : Int) by omega), decide_eq_true (show (k : Int) ≤ 4096 by omega)]
    rfl
  rw [hok] at HP0
  have HP := Lib.hid HP0
  have HT := Lib.hid (fun W (hW : Below w.heap.size w W) => hT.mono hW)
  have g1 := fun x W h => asmall_any m e n f x W h (by omega) (by omega) (by omega) (by omega) hv hv2
  rw [hsm] at g1
  have hb10 : AbP 1000 12 := by unfold AbP; decide
  obtain ⟨z1, z2, z3, z4, z5, z6⟩ := nf hb10 (by omega)
  rw [dq_int] at z6
  have g2 := fun W (hW : Below w.heap.size w W) => dof_any 1000 W (by omega) (by omega) (hT.mono hW)
  have g3 := fun x y W h j => dcmp_any n f (mkM 1000 0) (mkE 1000 0) x y W h j (by omega) (by omega) (by omega) (by omega)
  have hle := dcm_le n f (mkM 1000 0) (mkE 1000 0)
  rw [z6] at hle
  rw [show cmpI (n * 2 ^ (f - min f (mkE 1000 0)).toNat) (mkM 1000 0 * 2 ^ (mkE 1000 0 - min f (mkE 1000 0)).toNat) = dcm n f (mkM 1000 0) (mkE 1000 0) from rfl] at g3
  generalize dcm n f (mkM 1000 0) (mkE 1000 0) = cm at *
  generalize mkM 1000 0 = Mb at *
  generalize mkE 1000 0 = Eb at *
  have G1 := Lib.hid g1
  have G2 := Lib.hid g2
  have G3 := Lib.hid g3
  clear g1 g2 g3 z1 z2 z3 z4 z5 z6 hb10 hx HP0 hok
  have hcm : 0 < cm := by
    refine Int.not_le.1 fun h => hl (hle.1 h)
  have d1 : decide (0 < cm) = true := decide_eq_true hcm
  clear hle hl hv hv2 lm ln he hf hsm hk
  go_enter Tryz.func14, Tryz.ntmps14
  have L := ((L0.varI (w.heap.size) (by simp) (ng m) A (zl m) c e (ng n) B (zl n) d f).varI (w.heap.size + 1) (by simp) false none 0 0 0 false none 0 0 0)
  have c00 := L.b0.c60
  have f00 := L.b0.fr 0
  have c01 := L.b0.c61
  have f01 := L.b0.fr 1
  have c02 := L.b0.c62
  have f02 := L.b0.fr 2
  have c03 := L.b0.c63
  have f03 := L.b0.fr 3
  have c04 := L.b0.c64
  have f04 := L.b0.fr 4
  have c05 := L.b0.c65
  have f05 := L.b0.fr 5
  (try go_wp2_with fail)
  refine (HP.out _).mono ?_
  rintro e9 w' ⟨rfl, rfl⟩
  (try go_wp2_with fail)
  replace L := L.drew
  clear c00 f00 c01 f01 c02 f02 c03 f03 c04 f04 c05 f05
  have c10 := L.tl.b0.c60
  have c11 := L.tl.b0.c61
  have c12 := L.tl.b0.c62
  have c13 := L.tl.b0.c63
  have c14 := L.tl.b0.c64
  have c15 := L.tl.b0.c65
  go_region_held3 (fun w' => w'.cell? ⟨w.heap.size, 0, none⟩ = some (.bool (ng m)) ∧ w'.cell? ⟨w.heap.size, 1, none⟩ = some (.slice A (zl m) c) ∧ w'.cell? ⟨w.heap.size, 2, none⟩ = some (.int .i64 e) ∧ w'.cell? ⟨w.heap.size, 3, none⟩ = some (.bool (ng n)) ∧ w'.cell? ⟨w.heap.size, 4, none⟩ = some (.slice B (zl n) d) ∧ w'.cell? ⟨w.heap.size, 5, none⟩ = some (.int .i64 f)) (first | (with_reducible exact ⟨L.tl.b0.c60, L.tl.b0.c61, L.tl.b0.c62, L.tl.b0.c63, L.tl.b0.c64, L.tl.b0.c65⟩) | exact ⟨L.tl.b0.c60, L.tl.b0.c61, L.tl.b0.c62, L.tl.b0.c63, L.tl.b0.c64, L.tl.b0.c65⟩) (first | (go_at_call 55; (with_reducible refine (G1.out _ _ ?_ ).mono ?_); (· (refine isI_n (L.getN ?_) (L.getN ?_); all_goals (repeat (first | (with_reducible exact List.mem_cons_self) | apply List.mem_cons_of_mem)))); rintro e wh ⟨rfl, be⟩; replace L := L.step be; clear be) | (go_at_call 57; (with_reducible refine (G2.out _ ?_ ).mono ?_); (· exact L.below); rintro e wh ⟨vh, rfl, id, be⟩; obtain ⟨A1, c1, rfl, _, in9⟩ := id.form; replace L := (L.step be).n in9; clear be id in9) | (go_at_call 56; (with_reducible refine (G3.out _ _ _ ?_ ?_ ).mono ?_); (· (refine isD_n (L.getN ?_); (repeat (first | (with_reducible exact List.mem_cons_self) | apply List.mem_cons_of_mem)))); (· (refine isD_n (L.getN ?_); (repeat (first | (with_reducible exact List.mem_cons_self) | apply List.mem_cons_of_mem)))); rintro e wh ⟨rfl, be⟩; replace L := L.step be; clear be))
  clear c10 c11 c12 c13 c14 c15
  have c00 := L.b0.c60
  have f00 := L.b0.fr 0
  have c01 := L.b0.c61
  have f01 := L.b0.fr 1
  have c02 := L.b0.c62
  have f02 := L.b0.fr 2
  have c03 := L.b0.c63
  have f03 := L.b0.fr 3
  have c04 := L.b0.c64
  have f04 := L.b0.fr 4
  have c05 := L.b0.c65
  have f05 := L.b0.fr 5
  go_wp2_with fail
  clear c00 f00 c01 f01 c02 f02 c03 f03 c04 f04 c05 f05
  have LP := L.putI (by omega) (by first | (simp; done) | (simp; omega)) false none 0 0 0 false none 0 0 0
  have k0 := LP.b0.c60
  have k1 := LP.b0.c61
  have k2 := LP.b0.c62
  have k3 := LP.b0.c63
  have k4 := LP.b0.c64
  have k5 := LP.b0.c65
  unfold put6 at k0 k1 k2 k3 k4 k5
  exact bodyPost_ret (v := .tuple #[.agg #[.bool false, .slice none 0 0, .int .i64 0, .bool false, .slice none 0 0, .int .i64 0], .int .i64 3]) (by simp [results, Tryz.results14, go_sem, k0, k1, k2, k3, k4, k5]) rfl ⟨_, rfl, isI_zero _, LP.below⟩
set_option maxHeartbeats 16000000 in
theorem xexp_yes (m e n f : Int) (k : Nat) (vx : Value) (w : World) (hx : IsI w vx m e n f) (lm : zl m ≤ 100) (ln : zl n ≤ 100) (he : -10000 ≤ e ∧ e ≤ 3000) (hf : -10000 ≤ f ∧ f ≤ 3000) (hv : Dv m e) (hv2 : Dv n f) (hsm : smallB m e n f = true) (hk : k ≤ 220) (hl : dq n f ≤ 200) (hT : Tab w) :
    Calls Tryz.prog 14 #[vx, .int .i64 (k : Int)] w (RetEp w k m e n f) := by
  obtain ⟨A, c, B, d, rfl, hn1, hn2⟩ := hx.form
  have L0 := ((Lq.mk0 w).n hn2).n hn1
  have HP0 := fun W => xperm_any (k : Int) 0 W
  have hok : okX (k : Int) 0 = true := by
    unfold okX
    rw [decide_eq_true (show (0 : Int) ≤ (k : Int) by omega), decide_eq_true (show (k : Int) ≤ 4096 by omega)]
    rfl
  rw [hok] at HP0
  have HP := Lib.hid HP0
  have HT := Lib.hid (fun W (hW : Below w.heap.size w W) => hT.mono hW)
  have g1 := fun x W h => asmall_any m e n f x W h (by omega) (by omega) (by omega) (by omega) hv hv2
  rw [hsm] at g1
  have hb10 : AbP 1000 12 := by unfold AbP; decide
  obtain ⟨z1, z2, z3, z4, z5, z6⟩ := nf hb10 (by omega)
  rw [dq_int] at z6
  have g2 := fun W (hW : Below w.heap.size w W) => dof_any 1000 W (by omega) (by omega) (hT.mono hW)
  have g3 := fun x y W h j => dcmp_any n f (mkM 1000 0) (mkE 1000 0) x y W h j (by omega) (by omega) (by omega) (by omega)
  have hle := dcm_le n f (mkM 1000 0) (mkE 1000 0)
  rw [z6] at hle
  rw [show cmpI (n * 2 ^ (f - min f (mkE 1000 0)).toNat) (mkM 1000 0 * 2 ^ (mkE 1000 0 - min f (mkE 1000 0)).toNat) = dcm n f (mkM 1000 0) (mkE 1000 0) from rfl] at g3
  generalize dcm n f (mkM 1000 0) (mkE 1000 0) = cm at *
  generalize mkM 1000 0 = Mb at *
  generalize mkE 1000 0 = Eb at *
  have G1 := Lib.hid g1
  have G2 := Lib.hid g2
  have G3 := Lib.hid g3
  clear g1 g2 g3 z1 z2 z3 z4 z5 z6 hb10 hx HP0 hok
  have hcm : ¬ 0 < cm := by
    refine Int.not_lt.2 (hle.2 (Rat.le_trans hl ?_))
    exact_mod_cast (by omega : (200 : Int) ≤ 1000)
  have d1 : decide (0 < cm) = false := decide_eq_false hcm
  have hmn : dcm m e n f ≤ 0 := by
    unfold smallB at hsm
    rw [Bool.and_eq_true] at hsm
    exact of_decide_eq_true hsm.1
  have hlm : dq m e ≤ 200 := Rat.le_trans ((dcm_le m e n f).1 hmn) hl
  have g4 := fun x W h (hW : Below w.heap.size w W) => xpow_any m e k x W h lm he hv hlm hk (hT.mono hW)
  have g5 := fun x W h (hW : Below w.heap.size w W) => xpow_any n f k x W h ln hf hv2 hl hk (hT.mono hW)
  have g6 := fun x y W h j => dcmp_any m e n f x y W h j (by omega) (by omega) (by omega) (by omega)
  rw [show cmpI (m * 2 ^ (e - min e f).toNat) (n * 2 ^ (f - min e f).toNat) = dcm m e n f from rfl] at g6
  obtain ⟨j, hj⟩ : ∃ j : Nat, k + 20 = j := ⟨_, rfl⟩
  have hji : (j : Int) = (k : Int) + 20 := by omega
  have hpj : permB (j : Int) = true := by
    unfold permB
    rw [decide_eq_true (show (-2048 : Int) ≤ (j : Int) by omega), decide_eq_true (show (j : Int) ≤ 8192 by omega)]
    rfl
  have hpk : permB (k : Int) = true := by
    unfold permB
    rw [decide_eq_true (show (-2048 : Int) ≤ (k : Int) by omega), decide_eq_true (show (k : Int) ≤ 8192 by omega)]
    rfl
  have g7 := fun W (hW : Below w.heap.size w W) => gunit_any (j : Int) W (by omega) (by omega) (hT.mono hW)
  obtain ⟨y1, y2, y3⟩ := g_yes hpj 1
  obtain ⟨u1, u2, u3, u4, u5⟩ := np (T := 1) (j := 0) (p := j) (by unfold AbP; decide) (by omega) (by omega)
  rw [y1, y2, y3, u1] at g7
  have w1 : IntKind.i64.wrap ((k : Int) + 20) = (j : Int) := by rw [IntKind.wrap_i64]; omega
  have hjb : j ≤ 240 := by omega
  have HU := Lib.hid (And.intro u2 u3)
  have HPK := Lib.hid hpk
  have HJ := Lib.hid (And.intro hji (And.intro hjb hk))
  have HLB := Lib.hid (And.intro hlm hl)
  obtain ⟨Mu, hMu⟩ : ∃ z, mkM 1 (-(j : Int)) = z := ⟨_, rfl⟩
  obtain ⟨Eu, hEu⟩ : ∃ z, mkE 1 (-(j : Int)) = z := ⟨_, rfl⟩
  rw [hMu, hEu] at g7
  have HMU := Lib.hid (And.intro hMu hEu)
  have hcase : (dcm m e n f < 0) ∨ (m = n ∧ e = f ∧ dcm m e n f = 0) := by
    rcases Int.lt_or_le (dcm m e n f) 0 with q | q
    · exact Or.inl q
    · have q0 : dcm m e n f = 0 := by omega
      obtain ⟨a, b⟩ := (dcm_eq hv hv2).1 q0
      exact Or.inr ⟨a, b, q0⟩
  generalize dcm m e n f = cn at *
  have G4 := Lib.hid g4
  have G5 := Lib.hid g5
  have G6 := Lib.hid g6
  have G7 := Lib.hid g7
  clear g4 g5 g6 g7 hle hl hv hv2 lm ln he hf hsm y1 y2 y3 u1 u2 u3 u4 u5 hpj hpk hMu hEu hmn hlm hj hji hjb hk hT hcm
  rcases hcase with hlt | ⟨rfl, rfl, hlt⟩
  · have d2 : decide (cn < 0) = true := decide_eq_true hlt
    go_enter Tryz.func14, Tryz.ntmps14
    have L := ((L0.varI (w.heap.size) (by simp) (ng m) A (zl m) c e (ng n) B (zl n) d f).varI (w.heap.size + 1) (by simp) false none 0 0 0 false none 0 0 0)
    have c00 := L.b0.c60
    have f00 := L.b0.fr 0
    have c01 := L.b0.c61
    have f01 := L.b0.fr 1
    have c02 := L.b0.c62
    have f02 := L.b0.fr 2
    have c03 := L.b0.c63
    have f03 := L.b0.fr 3
    have c04 := L.b0.c64
    have f04 := L.b0.fr 4
    have c05 := L.b0.c65
    have f05 := L.b0.fr 5
    (try go_wp2_with fail)
    refine (HP.out _).mono ?_
    rintro e9 w' ⟨rfl, rfl⟩
    (try go_wp2_with fail)
    replace L := L.drew
    clear c00 f00 c01 f01 c02 f02 c03 f03 c04 f04 c05 f05
    have c10 := L.tl.b0.c60
    have c11 := L.tl.b0.c61
    have c12 := L.tl.b0.c62
    have c13 := L.tl.b0.c63
    have c14 := L.tl.b0.c64
    have c15 := L.tl.b0.c65
    go_region_held3 (fun w' => w'.cell? ⟨w.heap.size, 0, none⟩ = some (.bool (ng m)) ∧ w'.cell? ⟨w.heap.size, 1, none⟩ = some (.slice A (zl m) c) ∧ w'.cell? ⟨w.heap.size, 2, none⟩ = some (.int .i64 e) ∧ w'.cell? ⟨w.heap.size, 3, none⟩ = some (.bool (ng n)) ∧ w'.cell? ⟨w.heap.size, 4, none⟩ = some (.slice B (zl n) d) ∧ w'.cell? ⟨w.heap.size, 5, none⟩ = some (.int .i64 f)) (first | (with_reducible exact ⟨L.tl.b0.c60, L.tl.b0.c61, L.tl.b0.c62, L.tl.b0.c63, L.tl.b0.c64, L.tl.b0.c65⟩) | exact ⟨L.tl.b0.c60, L.tl.b0.c61, L.tl.b0.c62, L.tl.b0.c63, L.tl.b0.c64, L.tl.b0.c65⟩) (first | (go_at_call 55; (with_reducible refine (G1.out _ _ ?_ ).mono ?_); (· (refine isI_n (L.getN ?_) (L.getN ?_); all_goals (repeat (first | (with_reducible exact List.mem_cons_self) | apply List.mem_cons_of_mem)))); rintro e wh ⟨rfl, be⟩; replace L := L.step be; clear be) | (go_at_call 57; (with_reducible refine (G2.out _ ?_ ).mono ?_); (· exact L.below); rintro e wh ⟨vh, rfl, id, be⟩; obtain ⟨A1, c1, rfl, _, in9⟩ := id.form; replace L := (L.step be).n in9; clear be id in9) | (go_at_call 56; (with_reducible refine (G3.out _ _ _ ?_ ?_ ).mono ?_); (· (refine isD_n (L.getN ?_); (repeat (first | (with_reducible exact List.mem_cons_self) | apply List.mem_cons_of_mem)))); (· (refine isD_n (L.getN ?_); (repeat (first | (with_reducible exact List.mem_cons_self) | apply List.mem_cons_of_mem)))); rintro e wh ⟨rfl, be⟩; replace L := L.step be; clear be))
    clear c10 c11 c12 c13 c14 c15
    have c10 := L.tl.b0.c60
    have c11 := L.tl.b0.c61
    have c12 := L.tl.b0.c62
    have c13 := L.tl.b0.c63
    have c14 := L.tl.b0.c64
    have c15 := L.tl.b0.c65
    (try go_wp2_with fail)
    refine (G4.out _ _ (isD_n (m := m) (e := e) (s := .slice A (zl m) c) (L.getN (by simp))) L.below).mono ?_
    rintro e w1 ⟨s1, p1, hp1, hs1, hn19, hl1, hu1, v9, rfl, iz, be⟩
    clear c10 c11 c12 c13 c14 c15
    obtain ⟨A2, c2, rfl, _, in9⟩ := iz.form
    replace L := (L.step be).n in9
    clear be iz in9
    have hl9 := L.b0.lt
    obtain ⟨M1, hM1⟩ : ∃ z, mkM s1 (-(p1 : Int)) = z := ⟨_, rfl⟩
    obtain ⟨E1, hE1⟩ : ∃ z, mkE s1 (-(p1 : Int)) = z := ⟨_, rfl⟩
    rw [hM1] at L ⊢
    rw [hE1]
    have HW1 := Lib.hid (And.intro hp1 (And.intro hs1 (And.intro hl1 (And.intro hu1 (And.intro hM1 hE1)))))
    clear hp1 hs1 hn19 hl1 hu1 hM1 hE1
    replace L := L.varD w1.heap.size rfl (ng M1) A2 (zl M1) c2 E1
    have c00 := L.b0.c30
    have c01 := L.b0.c31
    have c02 := L.b0.c32
    replace L := L.varD (w1.heap.size + 1) (by simp) (ng M1) A2 (zl M1) c2 E1
    have d00 := L.tl.tl.tl.b0.c60
    have d01 := L.tl.tl.tl.b0.c61
    have d02 := L.tl.tl.tl.b0.c62
    have d03 := L.tl.tl.tl.b0.c63
    have d04 := L.tl.tl.tl.b0.c64
    have d05 := L.tl.tl.tl.b0.c65
    (try go_wp2_with fail)
    clear c00 c01 c02 d00 d01 d02 d03 d04 d05
    obtain ⟨g1, hg1⟩ : ∃ g9, w1.heap.size = g9 := ⟨_, rfl⟩
    rw [hg1] at L hl9 ⊢
    clear hg1
    have hl_g1 := hl9
    clear hl9
    refine (G6.out _ _ _ (isD_n (m := m) (e := e) (s := .slice A (zl m) c) (L.getN (by simp))) (isD_n (m := n) (e := f) (s := .slice B (zl n) d) (L.getN (by simp)))).mono ?_
    rintro e w2 ⟨rfl, be⟩
    replace L := L.step be
    clear be
    have c30 := L.tl.tl.tl.b0.c60
    have c31 := L.tl.tl.tl.b0.c61
    have c32 := L.tl.tl.tl.b0.c62
    have c33 := L.tl.tl.tl.b0.c63
    have c34 := L.tl.tl.tl.b0.c64
    have c35 := L.tl.tl.tl.b0.c65
    (try go_wp2_with fail)
    refine (G5.out _ _ (isD_n (m := n) (e := f) (s := .slice B (zl n) d) (L.getN (by simp))) L.below).mono ?_
    rintro e w3 ⟨s2, p2, hp2, hs2, hn29, hl2, hu2, v9, rfl, iz, be⟩
    clear c30 c31 c32 c33 c34 c35
    obtain ⟨A3, c3, rfl, _, in9⟩ := iz.form
    replace L := (L.step be).n in9
    clear be iz in9
    obtain ⟨M2, hM2⟩ : ∃ z, mkM s2 (-(p2 : Int)) = z := ⟨_, rfl⟩
    obtain ⟨E2, hE2⟩ : ∃ z, mkE s2 (-(p2 : Int)) = z := ⟨_, rfl⟩
    rw [hM2] at L ⊢
    rw [hE2]
    have HW2 := Lib.hid (And.intro hp2 (And.intro hs2 (And.intro hl2 (And.intro hu2 (And.intro hM2 hE2)))))
    clear hp2 hs2 hn29 hl2 hu2 hM2 hE2
    have c00 := L.b0.c30
    have f00 := L.b0.fr 0
    have c01 := L.b0.c31
    have f01 := L.b0.fr 1
    have c02 := L.b0.c32
    have f02 := L.b0.fr 2
    have P := L.putD (by omega) (by simp; omega) (ng M2) A3 (zl M2) c3 E2
    unfold put3 at P
    (try go_wp2_with fail)
    replace L := P
    clear P
    clear c00 f00 c01 f01 c02 f02
    refine (G7.out _ L.below).mono ?_
    rintro e w4 ⟨v9, rfl, iz, be⟩
    obtain ⟨A4, c4, rfl, _, in9⟩ := iz.form
    replace L := (L.step be).n in9
    clear be iz in9
    have hl9 := L.b0.lt
    replace L := L.varD w4.heap.size rfl (ng Mu) A4 (zl Mu) c4 Eu
    have c00 := L.b0.c30
    have c01 := L.b0.c31
    have c02 := L.b0.c32
    have c20 := L.tl.tl.b0.c30
    have c21 := L.tl.tl.b0.c31
    have c22 := L.tl.tl.b0.c32
    go_wp2_with fail
    clear c00 c01 c02 c20 c21 c22
    obtain ⟨gm, hgm⟩ : ∃ g9, w4.heap.size = g9 := ⟨_, rfl⟩
    rw [hgm] at L hl9 ⊢
    clear hgm
    have hl_gm := hl9
    clear hl9
    obtain ⟨hj1, hj2, hk⟩ := HJ.out
    obtain ⟨hmu, heu⟩ := HMU.out
    obtain ⟨zu, eu⟩ := HU.out
    rw [hmu] at zu
    rw [heu] at eu
    obtain ⟨hp1, hs1, hl1, hu1, hM1, hE1⟩ := HW1.out
    obtain ⟨hp2, hs2, hl2, hu2, hM2, hE2⟩ := HW2.out
    obtain ⟨q1, q2, q3, _, _⟩ := np hs1 (by omega) (show p1 ≤ 3000 by omega)
    rw [hM1] at q2
    rw [hE1] at q3
    obtain ⟨ML, hML⟩ : ∃ z, mkM (addS M1 E1 (-Mu) Eu) (min E1 Eu) = z := ⟨_, rfl⟩
    obtain ⟨EL, hEL⟩ : ∃ z, mkE (addS M1 E1 (-Mu) Eu) (min E1 Eu) = z := ⟨_, rfl⟩
    obtain ⟨l1, l2, l3, l4, l5⟩ := ep_sum (-1) hs1 hp1 (show j ≤ 300 by omega) (Or.inr rfl) ML EL (by rw [hM1, hE1, hmu, heu, Int.neg_mul, Int.one_mul]; exact hML) (by rw [hM1, hE1, hmu, heu, Int.neg_mul, Int.one_mul]; exact hEL)
    rw [hM1, hE1, hmu, heu, Int.neg_mul, Int.one_mul] at l1
    have g8 := fun x y W h i (hW : Below w.heap.size w W) => dsub_any M1 E1 Mu Eu x y W h i (by omega) (by omega) (by omega) (by omega) (HT.out W hW)
    rw [l1, hML, hEL] at g8
    obtain ⟨r1, r2, r3, _, _⟩ := np hs2 (by omega) (show p2 ≤ 3000 by omega)
    rw [hM2] at r2
    rw [hE2] at r3
    obtain ⟨MH, hMH⟩ : ∃ z, mkM (addS M2 E2 Mu Eu) (min E2 Eu) = z := ⟨_, rfl⟩
    obtain ⟨EH, hEH⟩ : ∃ z, mkE (addS M2 E2 Mu Eu) (min E2 Eu) = z := ⟨_, rfl⟩
    obtain ⟨h1, h2, h3, h4, h5⟩ := ep_sum 1 hs2 hp2 (show j ≤ 300 by omega) (Or.inl rfl) MH EH (by rw [hM2, hE2, hmu, heu, Int.one_mul]; exact hMH) (by rw [hM2, hE2, hmu, heu, Int.one_mul]; exact hEH)
    rw [hM2, hE2, hmu, heu, Int.one_mul] at h1
    have g9 := fun x y W h i (hW : Below w.heap.size w W) => dadd_any M2 E2 Mu Eu x y W h i (by omega) (by omega) (by omega) (by omega) (HT.out W hW)
    rw [h1, hMH, hEH] at g9
    rw [hj1, show ((-1 : Int) : Rat) = -1 from rfl] at l2
    rw [hj1, show ((1 : Int) : Rat) = 1 from rfl] at h2
    have HL := Lib.hid (And.intro l2 (And.intro l3 (And.intro l4 l5)))
    have HH := Lib.hid (And.intro h2 (And.intro h3 h4))
    have G8 := Lib.hid g8
    have G9 := Lib.hid g9
    have g10 := fun x W h => dsign_any ML EL x W h (by omega)
    have G10 := Lib.hid g10
    clear g8 g9 g10 l1 l2 l3 l4 l5 h1 h2 h3 h4 h5 q1 q2 q3 zu eu hmu heu hj1 hj2 hk hML hEL hMH hEH hp1 hs1 hl1 hu1 hM1 hE1 hp2 hs2 hl2 hu2 hM2 hE2 r1 r2 r3
    refine (G8.out _ _ _ (isD_n (m := M1) (e := E1) (s := .slice A2 (zl M1) c2) (L.getN (by simp))) (isD_n (m := Mu) (e := Eu) (s := .slice A4 (zl Mu) c4) (L.getN (by simp))) L.below).mono ?_
    rintro e w5 ⟨v9, rfl, iz, be⟩
    obtain ⟨A5, c5, rfl, _, in9⟩ := iz.form
    replace L := (L.step be).n in9
    clear be iz in9
    have hl9 := L.b0.lt
    replace L := L.varD w5.heap.size rfl (ng ML) A5 (zl ML) c5 EL
    have c10 := L.tl.b0.c30
    have c11 := L.tl.b0.c31
    have c12 := L.tl.b0.c32
    have c20 := L.tl.tl.b0.c30
    have c21 := L.tl.tl.b0.c31
    have c22 := L.tl.tl.b0.c32
    go_wp2_with fail
    clear c10 c11 c12 c20 c21 c22
    obtain ⟨gl, hgl⟩ : ∃ g9, w5.heap.size = g9 := ⟨_, rfl⟩
    rw [hgl] at L hl9 ⊢
    clear hgl
    have hl_gl := hl9
    clear hl9
    refine (G9.out _ _ _ (isD_n (m := M2) (e := E2) (s := .slice A3 (zl M2) c3) (L.getN (by simp))) (isD_n (m := Mu) (e := Eu) (s := .slice A4 (zl Mu) c4) (L.getN (by simp))) L.below).mono ?_
    rintro e w6 ⟨v9, rfl, iz, be⟩
    obtain ⟨A6, c6, rfl, _, in9⟩ := iz.form
    replace L := (L.step be).n in9
    clear be iz in9
    have hl9 := L.b0.lt
    replace L := L.varD w6.heap.size rfl (ng MH) A6 (zl MH) c6 EH
    have c10 := L.tl.b0.c30
    have c11 := L.tl.b0.c31
    have c12 := L.tl.b0.c32
    go_wp2_with fail
    clear c10 c11 c12
    obtain ⟨gh, hgh⟩ : ∃ g9, w6.heap.size = g9 := ⟨_, rfl⟩
    rw [hgh] at L hl9 ⊢
    clear hgh
    have hl_gh := hl9
    clear hl9
    refine (G10.out _ _ (isD_n (m := ML) (e := EL) (s := .slice A5 (zl ML) c5) (L.getN (by simp)))).mono ?_
    rintro e w7 ⟨rfl, be⟩
    replace L := L.step be
    clear be
    have L9 := L.subx (ns' := [(.slice A5 (zl ML) c5, ML.natAbs), (.slice A6 (zl MH) c6, MH.natAbs)]) (bs' := [(gl, 26, #[.bool (ng ML), .slice A5 (zl ML) c5, .int .i64 EL]), (gh, 26, #[.bool (ng MH), .slice A6 (zl MH) c6, .int .i64 EH]), (w.heap.size + 1, 28, #[.bool false, .slice none 0 0, .int .i64 0, .bool false, .slice none 0 0, .int .i64 0])]) (by simp) (by simp)
    clear L
    have L := L9
    clear L9
    obtain ⟨l2, l3, l4, l5⟩ := HL.out
    obtain ⟨h2, h3, h4⟩ := HH.out
    obtain ⟨hj1, hj2, hk⟩ := HJ.out
    obtain ⟨hp1, hs1, hl1, hu1, hM1, hE1⟩ := HW1.out
    obtain ⟨hp2, hs2, hl2, hu2, hM2, hE2⟩ := HW2.out
    have n1 : gl ≠ gh := by omega
    have n2 : w.heap.size + 1 ≠ gh := by omega
    have n3 : w.heap.size + 1 ≠ gl := by omega
    have eb := ep_hi hl2 hu2 HLB.out.2
    have h2' : dq MH EH = dq s2 (-(p2 : Int)) + dq 1 (-((k : Int) + 20)) := by rw [h2, Rat.one_mul]
    rw [← h2'] at eb
    obtain ⟨b, hb⟩ : ∃ z, -(cutQ (-(dq MH EH)) (k : Int)) = z := ⟨_, rfl⟩
    rw [hb] at eb
    obtain ⟨b1, _⟩ := np eb.1 (by omega) (show k ≤ 3000 by omega)
    have l2' : dq ML EL = dq s1 (-(p1 : Int)) - dq 1 (-((k : Int) + 20)) := by rw [l2, Rat.sub_eq_add_neg, Rat.neg_mul, Rat.one_mul]
    clear l2 h2 h2'
    rcases Int.lt_or_le ML 0 with hneg | hneg
    · have d3 : decide (cmpI ML 0 < 0) = true := decide_eq_true (by rw [cmpI_lt hneg]; omega)
      have hz := (dq_le_iff 0 ML EL)
      rw [dq_zero] at hz
      have hq : dq ML EL < 0 := Rat.not_le.1 fun h => by have := hz.1 h; omega
      rw [l2'] at hq
      have ea := ep_lo (Q := dq 0 0) hl1 hu1 HLB.out.1 (Or.inl ⟨dq_zero 0, hq⟩)
      obtain ⟨a, ha⟩ : ∃ z, cutQ (dq 0 0) (k : Int) = z := ⟨_, rfl⟩
      rw [ha] at ea
      obtain ⟨a1, _⟩ := np ea.2.1 (by omega) (show k ≤ 3000 by omega)
      have g11 := fun x W h (hW : Below w.heap.size w W) => i10out_yes 0 0 MH EH (k : Int) x W h (by rw [show zl 0 = 0 from len_zero]; omega) (by omega) (by omega) (by omega) (by omega) (by omega) HPK.out (by rw [ha]; exact a1) (by rw [hb]; exact b1) (HT.out W hW)
      rw [ha, hb] at g11
      obtain ⟨Ma, hMa⟩ : ∃ z, mkM a (-(k : Int)) = z := ⟨_, rfl⟩
      obtain ⟨Ea, hEa⟩ : ∃ z, mkE a (-(k : Int)) = z := ⟨_, rfl⟩
      obtain ⟨Nb, hNb⟩ : ∃ z, mkM b (-(k : Int)) = z := ⟨_, rfl⟩
      obtain ⟨Fb, hFb⟩ : ∃ z, mkE b (-(k : Int)) = z := ⟨_, rfl⟩
      rw [hMa, hEa, hNb, hFb] at g11
      have G11 := Lib.hid g11
      have HR := Lib.hid (And.intro ea (And.intro eb (And.intro (And.intro hMa hEa) (And.intro hNb hFb))))
      clear g11 ea eb hMa hEa hNb hFb ha hb a1 b1 hz hq hneg hl1 hu1 hs1 hM1 hE1 l2' l3 l4 l5 h3 h4 hp1 hj1 hj2 hk hl2 hu2 hs2 hM2 hE2 hp2
      have c00 := L.b0.c30
      have f00 := L.b0.fr 0
      have c01 := L.b0.c31
      have f01 := L.b0.fr 1
      have c02 := L.b0.c32
      have f02 := L.b0.fr 2
      have c10 := L.tl.b0.c30
      have c11 := L.tl.b0.c31
      have c12 := L.tl.b0.c32
      have P := L.putD (by omega) (by simp [n1, n2, n3, Ne.symm n1, Ne.symm n2, Ne.symm n3]) false none 0 0 0
      have p00 := P.b0.c30
      have p01 := P.b0.c31
      have p02 := P.b0.c32
      have p03 := P.tl.b0.c30
      have p04 := P.tl.b0.c31
      have p05 := P.tl.b0.c32
      unfold put3 at p00 p01 p02 p03 p04 p05 P
      (try go_wp2_with fail)
      replace L := P
      clear P p00 p01 p02 p03 p04 p05
      clear c00 f00 c01 f01 c02 f02 c10 c11 c12
      refine (G11.out _ _ ⟨.slice none 0 0, .slice A6 (zl MH) c6, by simp [ng], IsN.zero _, L.getN (by simp)⟩ L.below).mono ?_
      rintro e w8 ⟨v2, rfl, ii, be⟩
      obtain ⟨A8, c8, B8, d8, rfl, ia, ib⟩ := ii.form
      replace L := (((L.step be).n ib).n ia).pull2
      clear be ii ia ib
      have c00 := L.b0.c60
      have f00 := L.b0.fr 0
      have c01 := L.b0.c61
      have f01 := L.b0.fr 1
      have c02 := L.b0.c62
      have f02 := L.b0.fr 2
      have c03 := L.b0.c63
      have f03 := L.b0.fr 3
      have c04 := L.b0.c64
      have f04 := L.b0.fr 4
      have c05 := L.b0.c65
      have f05 := L.b0.fr 5
      go_wp2_with fail
      clear c00 f00 c01 f01 c02 f02 c03 f03 c04 f04 c05 f05
      obtain ⟨ea, eb, ⟨hMa, hEa⟩, hNb, hFb⟩ := HR.out
      subst hMa hEa hNb hFb
      have LP := L.putI (by omega) (by simp [n2, n3, Ne.symm n2, Ne.symm n3]) (ng (mkM a (-(k : Int)))) A8 (zl (mkM a (-(k : Int)))) c8 (mkE a (-(k : Int))) (ng (mkM b (-(k : Int)))) B8 (zl (mkM b (-(k : Int)))) d8 (mkE b (-(k : Int)))
      have k0 := LP.b0.c60
      have k1 := LP.b0.c61
      have k2 := LP.b0.c62
      have k3 := LP.b0.c63
      have k4 := LP.b0.c64
      have k5 := LP.b0.c65
      unfold put6 at k0 k1 k2 k3 k4 k5
      exact bodyPost_ret (v := .tuple #[.agg #[.bool (ng (mkM a (-(k : Int)))), .slice A8 (zl (mkM a (-(k : Int)))) c8, .int .i64 (mkE a (-(k : Int))), .bool (ng (mkM b (-(k : Int)))), .slice B8 (zl (mkM b (-(k : Int)))) d8, .int .i64 (mkE b (-(k : Int)))], .int .i64 0]) (by simp [results, Tryz.results14, go_sem, k0, k1, k2, k3, k4, k5]) rfl ⟨a, b, ea, eb, _, rfl, isI_n (LP.getN (by simp)) (LP.getN (by simp)), LP.below⟩
    · have d3 : decide (cmpI ML 0 < 0) = false := by
        refine decide_eq_false ?_
        unfold cmpI
        (repeat' split) <;> omega
      have hz := (dq_le_iff 0 ML EL)
      rw [dq_zero] at hz
      have hq := hz.2 hneg
      have ea := ep_lo (Q := dq ML EL) hl1 hu1 HLB.out.1 (Or.inr ⟨l2', hq⟩)
      obtain ⟨a, ha⟩ : ∃ z, cutQ (dq ML EL) (k : Int) = z := ⟨_, rfl⟩
      rw [ha] at ea
      obtain ⟨a1, _⟩ := np ea.2.1 (by omega) (show k ≤ 3000 by omega)
      have g11 := fun x W h (hW : Below w.heap.size w W) => i10out_yes ML EL MH EH (k : Int) x W h (by omega) (by omega) (by omega) (by omega) (by omega) (by omega) HPK.out (by rw [ha]; exact a1) (by rw [hb]; exact b1) (HT.out W hW)
      rw [ha, hb] at g11
      obtain ⟨Ma, hMa⟩ : ∃ z, mkM a (-(k : Int)) = z := ⟨_, rfl⟩
      obtain ⟨Ea, hEa⟩ : ∃ z, mkE a (-(k : Int)) = z := ⟨_, rfl⟩
      obtain ⟨Nb, hNb⟩ : ∃ z, mkM b (-(k : Int)) = z := ⟨_, rfl⟩
      obtain ⟨Fb, hFb⟩ : ∃ z, mkE b (-(k : Int)) = z := ⟨_, rfl⟩
      rw [hMa, hEa, hNb, hFb] at g11
      have G11 := Lib.hid g11
      have HR := Lib.hid (And.intro ea (And.intro eb (And.intro (And.intro hMa hEa) (And.intro hNb hFb))))
      clear g11 ea eb hMa hEa hNb hFb ha hb a1 b1 hz hq hneg hl1 hu1 hs1 hM1 hE1 l2' l3 l4 l5 h3 h4 hp1 hj1 hj2 hk hl2 hu2 hs2 hM2 hE2 hp2
      have c00 := L.b0.c30
      have f00 := L.b0.fr 0
      have c01 := L.b0.c31
      have f01 := L.b0.fr 1
      have c02 := L.b0.c32
      have f02 := L.b0.fr 2
      have c10 := L.tl.b0.c30
      have c11 := L.tl.b0.c31
      have c12 := L.tl.b0.c32
      (try go_wp2_with fail)
      clear c00 f00 c01 f01 c02 f02 c10 c11 c12
      refine (G11.out _ _ (isI_n (m := ML) (e := EL) (n := MH) (f := EH) (s := .slice A5 (zl ML) c5) (t := .slice A6 (zl MH) c6) (L.getN (by simp)) (L.getN (by simp))) L.below).mono ?_
      rintro e w8 ⟨v2, rfl, ii, be⟩
      obtain ⟨A8, c8, B8, d8, rfl, ia, ib⟩ := ii.form
      replace L := (((L.step be).n ib).n ia).pull2
      clear be ii ia ib
      have c00 := L.b0.c60
      have f00 := L.b0.fr 0
      have c01 := L.b0.c61
      have f01 := L.b0.fr 1
      have c02 := L.b0.c62
      have f02 := L.b0.fr 2
      have c03 := L.b0.c63
      have f03 := L.b0.fr 3
      have c04 := L.b0.c64
      have f04 := L.b0.fr 4
      have c05 := L.b0.c65
      have f05 := L.b0.fr 5
      go_wp2_with fail
      clear c00 f00 c01 f01 c02 f02 c03 f03 c04 f04 c05 f05
      obtain ⟨ea, eb, ⟨hMa, hEa⟩, hNb, hFb⟩ := HR.out
      subst hMa hEa hNb hFb
      have LP := L.putI (by omega) (by simp [n2, n3, Ne.symm n2, Ne.symm n3]) (ng (mkM a (-(k : Int)))) A8 (zl (mkM a (-(k : Int)))) c8 (mkE a (-(k : Int))) (ng (mkM b (-(k : Int)))) B8 (zl (mkM b (-(k : Int)))) d8 (mkE b (-(k : Int)))
      have k0 := LP.b0.c60
      have k1 := LP.b0.c61
      have k2 := LP.b0.c62
      have k3 := LP.b0.c63
      have k4 := LP.b0.c64
      have k5 := LP.b0.c65
      unfold put6 at k0 k1 k2 k3 k4 k5
      exact bodyPost_ret (v := .tuple #[.agg #[.bool (ng (mkM a (-(k : Int)))), .slice A8 (zl (mkM a (-(k : Int)))) c8, .int .i64 (mkE a (-(k : Int))), .bool (ng (mkM b (-(k : Int)))), .slice B8 (zl (mkM b (-(k : Int)))) d8, .int .i64 (mkE b (-(k : Int)))], .int .i64 0]) (by simp [results, Tryz.results14, go_sem, k0, k1, k2, k3, k4, k5]) rfl ⟨a, b, ea, eb, _, rfl, isI_n (LP.getN (by simp)) (LP.getN (by simp)), LP.below⟩
  · have d2 : decide (cn < 0) = false := decide_eq_false (by omega)
    go_enter Tryz.func14, Tryz.ntmps14
    have L := ((L0.varI (w.heap.size) (by simp) (ng m) A (zl m) c e (ng m) B (zl m) d e).varI (w.heap.size + 1) (by simp) false none 0 0 0 false none 0 0 0)
    have c00 := L.b0.c60
    have f00 := L.b0.fr 0
    have c01 := L.b0.c61
    have f01 := L.b0.fr 1
    have c02 := L.b0.c62
    have f02 := L.b0.fr 2
    have c03 := L.b0.c63
    have f03 := L.b0.fr 3
    have c04 := L.b0.c64
    have f04 := L.b0.fr 4
    have c05 := L.b0.c65
    have f05 := L.b0.fr 5
    (try go_wp2_with fail)
    refine (HP.out _).mono ?_
    rintro e9 w' ⟨rfl, rfl⟩
    (try go_wp2_with fail)
    replace L := L.drew
    clear c00 f00 c01 f01 c02 f02 c03 f03 c04 f04 c05 f05
    have c10 := L.tl.b0.c60
    have c11 := L.tl.b0.c61
    have c12 := L.tl.b0.c62
    have c13 := L.tl.b0.c63
    have c14 := L.tl.b0.c64
    have c15 := L.tl.b0.c65
    go_region_held3 (fun w' => w'.cell? ⟨w.heap.size, 0, none⟩ = some (.bool (ng m)) ∧ w'.cell? ⟨w.heap.size, 1, none⟩ = some (.slice A (zl m) c) ∧ w'.cell? ⟨w.heap.size, 2, none⟩ = some (.int .i64 e) ∧ w'.cell? ⟨w.heap.size, 3, none⟩ = some (.bool (ng m)) ∧ w'.cell? ⟨w.heap.size, 4, none⟩ = some (.slice B (zl m) d) ∧ w'.cell? ⟨w.heap.size, 5, none⟩ = some (.int .i64 e)) (first | (with_reducible exact ⟨L.tl.b0.c60, L.tl.b0.c61, L.tl.b0.c62, L.tl.b0.c63, L.tl.b0.c64, L.tl.b0.c65⟩) | exact ⟨L.tl.b0.c60, L.tl.b0.c61, L.tl.b0.c62, L.tl.b0.c63, L.tl.b0.c64, L.tl.b0.c65⟩) (first | (go_at_call 55; (with_reducible refine (G1.out _ _ ?_ ).mono ?_); (· (refine isI_n (L.getN ?_) (L.getN ?_); all_goals (repeat (first | (with_reducible exact List.mem_cons_self) | apply List.mem_cons_of_mem)))); rintro e wh ⟨rfl, be⟩; replace L := L.step be; clear be) | (go_at_call 57; (with_reducible refine (G2.out _ ?_ ).mono ?_); (· exact L.below); rintro e wh ⟨vh, rfl, id, be⟩; obtain ⟨A1, c1, rfl, _, in9⟩ := id.form; replace L := (L.step be).n in9; clear be id in9) | (go_at_call 56; (with_reducible refine (G3.out _ _ _ ?_ ?_ ).mono ?_); (· (refine isD_n (L.getN ?_); (repeat (first | (with_reducible exact List.mem_cons_self) | apply List.mem_cons_of_mem)))); (· (refine isD_n (L.getN ?_); (repeat (first | (with_reducible exact List.mem_cons_self) | apply List.mem_cons_of_mem)))); rintro e wh ⟨rfl, be⟩; replace L := L.step be; clear be))
    clear c10 c11 c12 c13 c14 c15
    have c10 := L.tl.b0.c60
    have c11 := L.tl.b0.c61
    have c12 := L.tl.b0.c62
    have c13 := L.tl.b0.c63
    have c14 := L.tl.b0.c64
    have c15 := L.tl.b0.c65
    (try go_wp2_with fail)
    refine (G4.out _ _ (isD_n (m := m) (e := e) (s := .slice A (zl m) c) (L.getN (by simp))) L.below).mono ?_
    rintro e w1 ⟨s1, p1, hp1, hs1, hn19, hl1, hu1, v9, rfl, iz, be⟩
    clear c10 c11 c12 c13 c14 c15
    obtain ⟨A2, c2, rfl, _, in9⟩ := iz.form
    replace L := (L.step be).n in9
    clear be iz in9
    have hl9 := L.b0.lt
    obtain ⟨M1, hM1⟩ : ∃ z, mkM s1 (-(p1 : Int)) = z := ⟨_, rfl⟩
    obtain ⟨E1, hE1⟩ : ∃ z, mkE s1 (-(p1 : Int)) = z := ⟨_, rfl⟩
    rw [hM1] at L ⊢
    rw [hE1]
    have HW1 := Lib.hid (And.intro hp1 (And.intro hs1 (And.intro hl1 (And.intro hu1 (And.intro hM1 hE1)))))
    clear hp1 hs1 hn19 hl1 hu1 hM1 hE1
    replace L := L.varD w1.heap.size rfl (ng M1) A2 (zl M1) c2 E1
    have c00 := L.b0.c30
    have c01 := L.b0.c31
    have c02 := L.b0.c32
    replace L := L.varD (w1.heap.size + 1) (by simp) (ng M1) A2 (zl M1) c2 E1
    have d00 := L.tl.tl.tl.b0.c60
    have d01 := L.tl.tl.tl.b0.c61
    have d02 := L.tl.tl.tl.b0.c62
    have d03 := L.tl.tl.tl.b0.c63
    have d04 := L.tl.tl.tl.b0.c64
    have d05 := L.tl.tl.tl.b0.c65
    (try go_wp2_with fail)
    clear c00 c01 c02 d00 d01 d02 d03 d04 d05
    obtain ⟨g1, hg1⟩ : ∃ g9, w1.heap.size = g9 := ⟨_, rfl⟩
    rw [hg1] at L hl9 ⊢
    clear hg1
    have hl_g1 := hl9
    clear hl9
    refine (G6.out _ _ _ (isD_n (m := m) (e := e) (s := .slice A (zl m) c) (L.getN (by simp))) (isD_n (m := m) (e := e) (s := .slice B (zl m) d) (L.getN (by simp)))).mono ?_
    rintro e w2 ⟨rfl, be⟩
    replace L := L.step be
    clear be
    (try go_wp2_with fail)
    refine (G7.out _ L.below).mono ?_
    rintro e w3 ⟨v9, rfl, iz, be⟩
    obtain ⟨A4, c4, rfl, _, in9⟩ := iz.form
    replace L := (L.step be).n in9
    clear be iz in9
    have hl9 := L.b0.lt
    replace L := L.varD w3.heap.size rfl (ng Mu) A4 (zl Mu) c4 Eu
    have c00 := L.b0.c30
    have c01 := L.b0.c31
    have c02 := L.b0.c32
    have c20 := L.tl.tl.b0.c30
    have c21 := L.tl.tl.b0.c31
    have c22 := L.tl.tl.b0.c32
    go_wp2_with fail
    clear c00 c01 c02 c20 c21 c22
    obtain ⟨gm, hgm⟩ : ∃ g9, w3.heap.size = g9 := ⟨_, rfl⟩
    rw [hgm] at L hl9 ⊢
    clear hgm
    have hl_gm := hl9
    clear hl9
    obtain ⟨hj1, hj2, hk⟩ := HJ.out
    obtain ⟨hmu, heu⟩ := HMU.out
    obtain ⟨zu, eu⟩ := HU.out
    rw [hmu] at zu
    rw [heu] at eu
    obtain ⟨hp1, hs1, hl1, hu1, hM1, hE1⟩ := HW1.out
    obtain ⟨q1, q2, q3, _, _⟩ := np hs1 (by omega) (show p1 ≤ 3000 by omega)
    rw [hM1] at q2
    rw [hE1] at q3
    obtain ⟨ML, hML⟩ : ∃ z, mkM (addS M1 E1 (-Mu) Eu) (min E1 Eu) = z := ⟨_, rfl⟩
    obtain ⟨EL, hEL⟩ : ∃ z, mkE (addS M1 E1 (-Mu) Eu) (min E1 Eu) = z := ⟨_, rfl⟩
    obtain ⟨l1, l2, l3, l4, l5⟩ := ep_sum (-1) hs1 hp1 (show j ≤ 300 by omega) (Or.inr rfl) ML EL (by rw [hM1, hE1, hmu, heu, Int.neg_mul, Int.one_mul]; exact hML) (by rw [hM1, hE1, hmu, heu, Int.neg_mul, Int.one_mul]; exact hEL)
    rw [hM1, hE1, hmu, heu, Int.neg_mul, Int.one_mul] at l1
    have g8 := fun x y W h i (hW : Below w.heap.size w W) => dsub_any M1 E1 Mu Eu x y W h i (by omega) (by omega) (by omega) (by omega) (HT.out W hW)
    rw [l1, hML, hEL] at g8
    obtain ⟨MH, hMH⟩ : ∃ z, mkM (addS M1 E1 Mu Eu) (min E1 Eu) = z := ⟨_, rfl⟩
    obtain ⟨EH, hEH⟩ : ∃ z, mkE (addS M1 E1 Mu Eu) (min E1 Eu) = z := ⟨_, rfl⟩
    obtain ⟨h1, h2, h3, h4, h5⟩ := ep_sum 1 hs1 hp1 (show j ≤ 300 by omega) (Or.inl rfl) MH EH (by rw [hM1, hE1, hmu, heu, Int.one_mul]; exact hMH) (by rw [hM1, hE1, hmu, heu, Int.one_mul]; exact hEH)
    rw [hM1, hE1, hmu, heu, Int.one_mul] at h1
    have g9 := fun x y W h i (hW : Below w.heap.size w W) => dadd_any M1 E1 Mu Eu x y W h i (by omega) (by omega) (by omega) (by omega) (HT.out W hW)
    rw [h1, hMH, hEH] at g9
    rw [hj1, show ((-1 : Int) : Rat) = -1 from rfl] at l2
    rw [hj1, show ((1 : Int) : Rat) = 1 from rfl] at h2
    have HL := Lib.hid (And.intro l2 (And.intro l3 (And.intro l4 l5)))
    have HH := Lib.hid (And.intro h2 (And.intro h3 h4))
    have G8 := Lib.hid g8
    have G9 := Lib.hid g9
    have g10 := fun x W h => dsign_any ML EL x W h (by omega)
    have G10 := Lib.hid g10
    clear g8 g9 g10 l1 l2 l3 l4 l5 h1 h2 h3 h4 h5 q1 q2 q3 zu eu hmu heu hj1 hj2 hk hML hEL hMH hEH hp1 hs1 hl1 hu1 hM1 hE1
    refine (G8.out _ _ _ (isD_n (m := M1) (e := E1) (s := .slice A2 (zl M1) c2) (L.getN (by simp))) (isD_n (m := Mu) (e := Eu) (s := .slice A4 (zl Mu) c4) (L.getN (by simp))) L.below).mono ?_
    rintro e w4 ⟨v9, rfl, iz, be⟩
    obtain ⟨A5, c5, rfl, _, in9⟩ := iz.form
    replace L := (L.step be).n in9
    clear be iz in9
    have hl9 := L.b0.lt
    replace L := L.varD w4.heap.size rfl (ng ML) A5 (zl ML) c5 EL
    have c10 := L.tl.b0.c30
    have c11 := L.tl.b0.c31
    have c12 := L.tl.b0.c32
    have c20 := L.tl.tl.b0.c30
    have c21 := L.tl.tl.b0.c31
    have c22 := L.tl.tl.b0.c32
    go_wp2_with fail
    clear c10 c11 c12 c20 c21 c22
    obtain ⟨gl, hgl⟩ : ∃ g9, w4.heap.size = g9 := ⟨_, rfl⟩
    rw [hgl] at L hl9 ⊢
    clear hgl
    have hl_gl := hl9
    clear hl9
    refine (G9.out _ _ _ (isD_n (m := M1) (e := E1) (s := .slice A2 (zl M1) c2) (L.getN (by simp))) (isD_n (m := Mu) (e := Eu) (s := .slice A4 (zl Mu) c4) (L.getN (by simp))) L.below).mono ?_
    rintro e w5 ⟨v9, rfl, iz, be⟩
    obtain ⟨A6, c6, rfl, _, in9⟩ := iz.form
    replace L := (L.step be).n in9
    clear be iz in9
    have hl9 := L.b0.lt
    replace L := L.varD w5.heap.size rfl (ng MH) A6 (zl MH) c6 EH
    have c10 := L.tl.b0.c30
    have c11 := L.tl.b0.c31
    have c12 := L.tl.b0.c32
    go_wp2_with fail
    clear c10 c11 c12
    obtain ⟨gh, hgh⟩ : ∃ g9, w5.heap.size = g9 := ⟨_, rfl⟩
    rw [hgh] at L hl9 ⊢
    clear hgh
    have hl_gh := hl9
    clear hl9
    refine (G10.out _ _ (isD_n (m := ML) (e := EL) (s := .slice A5 (zl ML) c5) (L.getN (by simp)))).mono ?_
    rintro e w6 ⟨rfl, be⟩
    replace L := L.step be
    clear be
    have L9 := L.subx (ns' := [(.slice A5 (zl ML) c5, ML.natAbs), (.slice A6 (zl MH) c6, MH.natAbs)]) (bs' := [(gl, 26, #[.bool (ng ML), .slice A5 (zl ML) c5, .int .i64 EL]), (gh, 26, #[.bool (ng MH), .slice A6 (zl MH) c6, .int .i64 EH]), (w.heap.size + 1, 28, #[.bool false, .slice none 0 0, .int .i64 0, .bool false, .slice none 0 0, .int .i64 0])]) (by simp) (by simp)
    clear L
    have L := L9
    clear L9
    obtain ⟨l2, l3, l4, l5⟩ := HL.out
    obtain ⟨h2, h3, h4⟩ := HH.out
    obtain ⟨hj1, hj2, hk⟩ := HJ.out
    obtain ⟨hp1, hs1, hl1, hu1, hM1, hE1⟩ := HW1.out
    have n1 : gl ≠ gh := by omega
    have n2 : w.heap.size + 1 ≠ gh := by omega
    have n3 : w.heap.size + 1 ≠ gl := by omega
    have eb := ep_hi hl1 hu1 HLB.out.1
    have h2' : dq MH EH = dq s1 (-(p1 : Int)) + dq 1 (-((k : Int) + 20)) := by rw [h2, Rat.one_mul]
    rw [← h2'] at eb
    obtain ⟨b, hb⟩ : ∃ z, -(cutQ (-(dq MH EH)) (k : Int)) = z := ⟨_, rfl⟩
    rw [hb] at eb
    obtain ⟨b1, _⟩ := np eb.1 (by omega) (show k ≤ 3000 by omega)
    have l2' : dq ML EL = dq s1 (-(p1 : Int)) - dq 1 (-((k : Int) + 20)) := by rw [l2, Rat.sub_eq_add_neg, Rat.neg_mul, Rat.one_mul]
    clear l2 h2 h2'
    rcases Int.lt_or_le ML 0 with hneg | hneg
    · have d3 : decide (cmpI ML 0 < 0) = true := decide_eq_true (by rw [cmpI_lt hneg]; omega)
      have hz := (dq_le_iff 0 ML EL)
      rw [dq_zero] at hz
      have hq : dq ML EL < 0 := Rat.not_le.1 fun h => by have := hz.1 h; omega
      rw [l2'] at hq
      have ea := ep_lo (Q := dq 0 0) hl1 hu1 HLB.out.1 (Or.inl ⟨dq_zero 0, hq⟩)
      obtain ⟨a, ha⟩ : ∃ z, cutQ (dq 0 0) (k : Int) = z := ⟨_, rfl⟩
      rw [ha] at ea
      obtain ⟨a1, _⟩ := np ea.2.1 (by omega) (show k ≤ 3000 by omega)
      have g11 := fun x W h (hW : Below w.heap.size w W) => i10out_yes 0 0 MH EH (k : Int) x W h (by rw [show zl 0 = 0 from len_zero]; omega) (by omega) (by omega) (by omega) (by omega) (by omega) HPK.out (by rw [ha]; exact a1) (by rw [hb]; exact b1) (HT.out W hW)
      rw [ha, hb] at g11
      obtain ⟨Ma, hMa⟩ : ∃ z, mkM a (-(k : Int)) = z := ⟨_, rfl⟩
      obtain ⟨Ea, hEa⟩ : ∃ z, mkE a (-(k : Int)) = z := ⟨_, rfl⟩
      obtain ⟨Nb, hNb⟩ : ∃ z, mkM b (-(k : Int)) = z := ⟨_, rfl⟩
      obtain ⟨Fb, hFb⟩ : ∃ z, mkE b (-(k : Int)) = z := ⟨_, rfl⟩
      rw [hMa, hEa, hNb, hFb] at g11
      have G11 := Lib.hid g11
      have HR := Lib.hid (And.intro ea (And.intro eb (And.intro (And.intro hMa hEa) (And.intro hNb hFb))))
      clear g11 ea eb hMa hEa hNb hFb ha hb a1 b1 hz hq hneg hl1 hu1 hs1 hM1 hE1 l2' l3 l4 l5 h3 h4 hp1 hj1 hj2 hk
      have c00 := L.b0.c30
      have f00 := L.b0.fr 0
      have c01 := L.b0.c31
      have f01 := L.b0.fr 1
      have c02 := L.b0.c32
      have f02 := L.b0.fr 2
      have c10 := L.tl.b0.c30
      have c11 := L.tl.b0.c31
      have c12 := L.tl.b0.c32
      have P := L.putD (by omega) (by simp [n1, n2, n3, Ne.symm n1, Ne.symm n2, Ne.symm n3]) false none 0 0 0
      have p00 := P.b0.c30
      have p01 := P.b0.c31
      have p02 := P.b0.c32
      have p03 := P.tl.b0.c30
      have p04 := P.tl.b0.c31
      have p05 := P.tl.b0.c32
      unfold put3 at p00 p01 p02 p03 p04 p05 P
      (try go_wp2_with fail)
      replace L := P
      clear P p00 p01 p02 p03 p04 p05
      clear c00 f00 c01 f01 c02 f02 c10 c11 c12
      refine (G11.out _ _ ⟨.slice none 0 0, .slice A6 (zl MH) c6, by simp [ng], IsN.zero _, L.getN (by simp)⟩ L.below).mono ?_
      rintro e w7 ⟨v2, rfl, ii, be⟩
      obtain ⟨A8, c8, B8, d8, rfl, ia, ib⟩ := ii.form
      replace L := (((L.step be).n ib).n ia).pull2
      clear be ii ia ib
      have c00 := L.b0.c60
      have f00 := L.b0.fr 0
      have c01 := L.b0.c61
      have f01 := L.b0.fr 1
      have c02 := L.b0.c62
      have f02 := L.b0.fr 2
      have c03 := L.b0.c63
      have f03 := L.b0.fr 3
      have c04 := L.b0.c64
      have f04 := L.b0.fr 4
      have c05 := L.b0.c65
      have f05 := L.b0.fr 5
      go_wp2_with fail
      clear c00 f00 c01 f01 c02 f02 c03 f03 c04 f04 c05 f05
      obtain ⟨ea, eb, ⟨hMa, hEa⟩, hNb, hFb⟩ := HR.out
      subst hMa hEa hNb hFb
      have LP := L.putI (by omega) (by simp [n2, n3, Ne.symm n2, Ne.symm n3]) (ng (mkM a (-(k : Int)))) A8 (zl (mkM a (-(k : Int)))) c8 (mkE a (-(k : Int))) (ng (mkM b (-(k : Int)))) B8 (zl (mkM b (-(k : Int)))) d8 (mkE b (-(k : Int)))
      have k0 := LP.b0.c60
      have k1 := LP.b0.c61
      have k2 := LP.b0.c62
      have k3 := LP.b0.c63
      have k4 := LP.b0.c64
      have k5 := LP.b0.c65
      unfold put6 at k0 k1 k2 k3 k4 k5
      exact bodyPost_ret (v := .tuple #[.agg #[.bool (ng (mkM a (-(k : Int)))), .slice A8 (zl (mkM a (-(k : Int)))) c8, .int .i64 (mkE a (-(k : Int))), .bool (ng (mkM b (-(k : Int)))), .slice B8 (zl (mkM b (-(k : Int)))) d8, .int .i64 (mkE b (-(k : Int)))], .int .i64 0]) (by simp [results, Tryz.results14, go_sem, k0, k1, k2, k3, k4, k5]) rfl ⟨a, b, ea, eb, _, rfl, isI_n (LP.getN (by simp)) (LP.getN (by simp)), LP.below⟩
    · have d3 : decide (cmpI ML 0 < 0) = false := by
        refine decide_eq_false ?_
        unfold cmpI
        (repeat' split) <;> omega
      have hz := (dq_le_iff 0 ML EL)
      rw [dq_zero] at hz
      have hq := hz.2 hneg
      have ea := ep_lo (Q := dq ML EL) hl1 hu1 HLB.out.1 (Or.inr ⟨l2', hq⟩)
      obtain ⟨a, ha⟩ : ∃ z, cutQ (dq ML EL) (k : Int) = z := ⟨_, rfl⟩
      rw [ha] at ea
      obtain ⟨a1, _⟩ := np ea.2.1 (by omega) (show k ≤ 3000 by omega)
      have g11 := fun x W h (hW : Below w.heap.size w W) => i10out_yes ML EL MH EH (k : Int) x W h (by omega) (by omega) (by omega) (by omega) (by omega) (by omega) HPK.out (by rw [ha]; exact a1) (by rw [hb]; exact b1) (HT.out W hW)
      rw [ha, hb] at g11
      obtain ⟨Ma, hMa⟩ : ∃ z, mkM a (-(k : Int)) = z := ⟨_, rfl⟩
      obtain ⟨Ea, hEa⟩ : ∃ z, mkE a (-(k : Int)) = z := ⟨_, rfl⟩
      obtain ⟨Nb, hNb⟩ : ∃ z, mkM b (-(k : Int)) = z := ⟨_, rfl⟩
      obtain ⟨Fb, hFb⟩ : ∃ z, mkE b (-(k : Int)) = z := ⟨_, rfl⟩
      rw [hMa, hEa, hNb, hFb] at g11
      have G11 := Lib.hid g11
      have HR := Lib.hid (And.intro ea (And.intro eb (And.intro (And.intro hMa hEa) (And.intro hNb hFb))))
      clear g11 ea eb hMa hEa hNb hFb ha hb a1 b1 hz hq hneg hl1 hu1 hs1 hM1 hE1 l2' l3 l4 l5 h3 h4 hp1 hj1 hj2 hk
      have c00 := L.b0.c30
      have f00 := L.b0.fr 0
      have c01 := L.b0.c31
      have f01 := L.b0.fr 1
      have c02 := L.b0.c32
      have f02 := L.b0.fr 2
      have c10 := L.tl.b0.c30
      have c11 := L.tl.b0.c31
      have c12 := L.tl.b0.c32
      (try go_wp2_with fail)
      clear c00 f00 c01 f01 c02 f02 c10 c11 c12
      refine (G11.out _ _ (isI_n (m := ML) (e := EL) (n := MH) (f := EH) (s := .slice A5 (zl ML) c5) (t := .slice A6 (zl MH) c6) (L.getN (by simp)) (L.getN (by simp))) L.below).mono ?_
      rintro e w7 ⟨v2, rfl, ii, be⟩
      obtain ⟨A8, c8, B8, d8, rfl, ia, ib⟩ := ii.form
      replace L := (((L.step be).n ib).n ia).pull2
      clear be ii ia ib
      have c00 := L.b0.c60
      have f00 := L.b0.fr 0
      have c01 := L.b0.c61
      have f01 := L.b0.fr 1
      have c02 := L.b0.c62
      have f02 := L.b0.fr 2
      have c03 := L.b0.c63
      have f03 := L.b0.fr 3
      have c04 := L.b0.c64
      have f04 := L.b0.fr 4
      have c05 := L.b0.c65
      have f05 := L.b0.fr 5
      go_wp2_with fail
      clear c00 f00 c01 f01 c02 f02 c03 f03 c04 f04 c05 f05
      obtain ⟨ea, eb, ⟨hMa, hEa⟩, hNb, hFb⟩ := HR.out
      subst hMa hEa hNb hFb
      have LP := L.putI (by omega) (by simp [n2, n3, Ne.symm n2, Ne.symm n3]) (ng (mkM a (-(k : Int)))) A8 (zl (mkM a (-(k : Int)))) c8 (mkE a (-(k : Int))) (ng (mkM b (-(k : Int)))) B8 (zl (mkM b (-(k : Int)))) d8 (mkE b (-(k : Int)))
      have k0 := LP.b0.c60
      have k1 := LP.b0.c61
      have k2 := LP.b0.c62
      have k3 := LP.b0.c63
      have k4 := LP.b0.c64
      have k5 := LP.b0.c65
      unfold put6 at k0 k1 k2 k3 k4 k5
      exact bodyPost_ret (v := .tuple #[.agg #[.bool (ng (mkM a (-(k : Int)))), .slice A8 (zl (mkM a (-(k : Int)))) c8, .int .i64 (mkE a (-(k : Int))), .bool (ng (mkM b (-(k : Int)))), .slice B8 (zl (mkM b (-(k : Int)))) d8, .int .i64 (mkE b (-(k : Int)))], .int .i64 0]) (by simp [results, Tryz.results14, go_sem, k0, k1, k2, k3, k4, k5]) rfl ⟨a, b, ea, eb, _, rfl, isI_n (LP.getN (by simp)) (LP.getN (by simp)), LP.below⟩

theorem n2000 : mkM 2000 0 = 125 ∧ mkE 2000 0 = 4 := by
  have h2 : AbP 2000 11 := by unfold AbP; decide
  obtain ⟨a1, _, _, _, _, a6⟩ := nf h2 (by omega)
  have hv : Dv 125 4 := Or.inr ⟨by decide, by decide +kernel⟩
  exact dv_uniq (mk_ok a1) hv (by rw [a6]; decide +kernel)
theorem dv_00 : Dv 0 0 := Or.inl ⟨rfl, rfl⟩
theorem zl_c (x : Int) (h : x.natAbs < 4294967296) : zl x ≤ 1 := len_le1 h

set_option maxHeartbeats 8000000 in
theorem awake14_any (w : World) (hT : Tab w) :
    Calls Tryz.prog 10 #[] w (RetB w true) := by
  have HT := Lib.hid (fun W (hW : Below w.heap.size w W) => hT.mono hW)
  have z0 : zl 0 ≤ 1 := zl_c 0 (by decide)
  have z5 : zl 125 ≤ 1 := zl_c 125 (by decide)
  have hd0 : dq 0 0 = 0 := dq_zero 0
  have g1 := fun W => of14_any 0 0 W (by omega) (by omega)
  rw [nf00.1, nf00.2] at g1
  have g2 := fun v W h (hW : Below w.heap.size w W) => xexp_yes 0 0 0 0 3 v W h (by omega) (by omega) (by omega) (by omega) dv_00 dv_00 (by decide +kernel) (by omega) (by rw [hd0]; decide +kernel) (hT.mono hW)
  have g3 := fun W => of14_any 2000 2000 W (by omega) (by omega)
  rw [n2000.1, n2000.2] at g3
  have dv5 : Dv 125 4 := Or.inr ⟨by decide, by decide +kernel⟩
  have g4 := fun v W h (hW : Below w.heap.size w W) => xexp_large 125 4 125 4 3 v W h (by omega) (by omega) (by omega) (by omega) dv5 dv5 (by decide +kernel) (by omega) (by decide +kernel) (hT.mono hW)
  have g5 := fun W => (show Calls Tryz.prog 29 #[.int .i64 1] W (RetP W 1 1) from rofn7_any 1 W (by omega) (by omega))
  have G1 := Lib.hid g1
  have G2 := Lib.hid g2
  have G3 := Lib.hid g3
  have G4 := Lib.hid g4
  have G5 := Lib.hid g5
  clear g1 g2 g3 g4 g5 hT dv5
  go_enter Tryz.func10, Tryz.ntmps10
  go_wp2_with fail
  have L := Lq.mk0 w
  (try go_wp2_with fail)
  refine (G1.out _).mono ?_
  rintro e w1 ⟨vv, rfl, ii, be⟩
  obtain ⟨A1, c1, B1, d1, rfl, ia, ib⟩ := ii.form
  replace L := ((L.step be).n ib).n ia
  clear be ii ia ib
  (try go_wp2_with fail)
  refine (G2.out _ _ (isI_n (m := 0) (e := 0) (n := 0) (f := 0) (s := .slice A1 (zl 0) c1) (t := .slice B1 (zl 0) d1) (L.getN (by simp)) (L.getN (by simp))) L.below).mono ?_
  intro e9 w2 hr9
  obtain ⟨a, b, ea, eb, vv, rfl, ii, be⟩ := hr9.ab
  obtain ⟨A2, c2, B2, d2, rfl, ia, ib⟩ := ii.form
  replace L := ((L.step be).n ib).n ia
  clear be ii ia ib hr9
  obtain ⟨x1, x2, x3, x4, x5⟩ := np ea.2.1 (by omega) (show 3 ≤ 3000 by omega)
  obtain ⟨y1, y2, y3, y4, y5⟩ := np eb.1 (by omega) (show 3 ≤ 3000 by omega)
  rw [hd0] at ea eb
  have q1 := ea.2.2.1.le exp_0.2
  have q2 := exp_0.1.le eb.2.2
  have g6 : ∀ v u W, IsI W v (mkM a (-((3 : Nat) : Int))) (mkE a (-((3 : Nat) : Int))) (mkM b (-((3 : Nat) : Int))) (mkE b (-((3 : Nat) : Int))) → IsP W u 1 1 → Calls Tryz.prog 28 #[v, u] W (RetB W true) := fun v u W h k9 => by
    have s := r10has_any _ _ _ _ 1 1 v u W h k9 (by omega) (by omega) (by omega) (by omega) (Nat.le_trans (zl_c 1 (by decide)) (by omega)) (Nat.le_trans (len_le1 (by decide)) (by omega))
    rwa [(hasB_iff _ _ _ _ _ _ (by omega)).2 ⟨by rw [x5]; exact q1, by rw [y5]; exact q2⟩] at s
  obtain ⟨M, hM⟩ : ∃ z, mkM a (-((3 : Nat) : Int)) = z := ⟨_, rfl⟩
  obtain ⟨E, hE⟩ : ∃ z, mkE a (-((3 : Nat) : Int)) = z := ⟨_, rfl⟩
  obtain ⟨N, hN⟩ : ∃ z, mkM b (-((3 : Nat) : Int)) = z := ⟨_, rfl⟩
  obtain ⟨G, hG⟩ : ∃ z, mkE b (-((3 : Nat) : Int)) = z := ⟨_, rfl⟩
  rw [hM, hE, hN, hG] at g6
  rw [hM, hN] at L ⊢
  rw [hE, hG]
  have G6 := Lib.hid g6
  clear g6 x1 x2 x3 x4 x5 y1 y2 y3 y4 y5 q1 q2 ea eb hM hE hN hG G1 G2
  replace L := L.varI w2.heap.size rfl (ng M) A2 (zl M) c2 E (ng N) B2 (zl N) d2 G
  have cel00 := L.b0.c60
  have cel01 := L.b0.c61
  have cel02 := L.b0.c62
  have cel03 := L.b0.c63
  have cel04 := L.b0.c64
  have cel05 := L.b0.c65
  go_wp2_with fail
  clear cel00 cel01 cel02 cel03 cel04 cel05
  obtain ⟨b1, hb1⟩ : ∃ g9, w2.heap.size = g9 := ⟨_, rfl⟩
  rw [hb1] at L ⊢
  clear hb1
  refine (G3.out _).mono ?_
  rintro e w3 ⟨vv, rfl, ii, be⟩
  obtain ⟨A3, c3, B3, d3, rfl, ia, ib⟩ := ii.form
  replace L := ((L.step be).n ib).n ia
  clear be ii ia ib
  have hl2 := L.b0.lt
  (try go_wp2_with fail)
  refine (G4.out _ _ (isI_n (m := 125) (e := 4) (n := 125) (f := 4) (s := .slice A3 (zl 125) c3) (t := .slice B3 (zl 125) d3) (L.getN (by simp)) (L.getN (by simp))) L.below).mono ?_
  rintro e w4 ⟨vv, rfl, ii, be⟩
  obtain ⟨A4, c4, B4, d4, rfl, ia, ib⟩ := ii.form
  replace L := ((L.step be).n ib).n ia
  clear be ii ia ib hl2
  have hl2 := L.b0.lt
  replace L := L.varI w4.heap.size rfl (ng 0) A4 (zl 0) c4 0 (ng 0) B4 (zl 0) d4 0
  have cel00 := L.b0.c60
  have cel01 := L.b0.c61
  have cel02 := L.b0.c62
  have cel03 := L.b0.c63
  have cel04 := L.b0.c64
  have cel05 := L.b0.c65
  go_wp2_with fail
  clear cel00 cel01 cel02 cel03 cel04 cel05
  obtain ⟨b2, hb2⟩ : ∃ g9, w4.heap.size = g9 := ⟨_, rfl⟩
  rw [hb2] at L hl2 ⊢
  clear hb2
  replace L := L.drew
  have cel10 := L.tl.b0.c60
  have cel11 := L.tl.b0.c61
  have cel12 := L.tl.b0.c62
  have cel13 := L.tl.b0.c63
  have cel14 := L.tl.b0.c64
  have cel15 := L.tl.b0.c65
  go_region_held3 (fun w' => w'.cell? ⟨b1, 0, none⟩ = some (.bool (ng M)) ∧ w'.cell? ⟨b1, 1, none⟩ = some (.slice A2 (zl M) c2) ∧ w'.cell? ⟨b1, 2, none⟩ = some (.int .i64 E) ∧ w'.cell? ⟨b1, 3, none⟩ = some (.bool (ng N)) ∧ w'.cell? ⟨b1, 4, none⟩ = some (.slice B2 (zl N) d2) ∧ w'.cell? ⟨b1, 5, none⟩ = some (.int .i64 G)) (first | (with_reducible exact ⟨L.tl.b0.c60, L.tl.b0.c61, L.tl.b0.c62, L.tl.b0.c63, L.tl.b0.c64, L.tl.b0.c65⟩) | exact ⟨L.tl.b0.c60, L.tl.b0.c61, L.tl.b0.c62, L.tl.b0.c63, L.tl.b0.c64, L.tl.b0.c65⟩) (first | (go_at_call 29; (with_reducible refine (G5.out _ ).mono ?_); rintro e wh ⟨vh, rfl, iq, be⟩; replace L := (L.step be).q iq; clear be iq) | (go_at_call 28; (with_reducible refine (G6.out _ _ _ ?_ ?_ ).mono ?_); (· (refine isI_n (L.getN ?_) (L.getN ?_); all_goals (repeat (first | (with_reducible exact List.mem_cons_self) | apply List.mem_cons_of_mem)))); (· (refine L.getQ ?_; (repeat (first | (with_reducible exact List.mem_cons_self) | apply List.mem_cons_of_mem)))); rintro e wh ⟨rfl, be⟩; replace L := L.step be; clear be))
  (try go_wp2_with fail)
  (try go_ret)
  exact ⟨rfl, L.below⟩

theorem mk_fits14 {m e : Int} (h : zl m ≤ 1900) (h1 : -60000 ≤ e) (h2 : e ≤ 4000) : mkR m e = 0 := by
  unfold mkR
  rw [if_neg (by omega)]
  by_cases h0 : m = 0
  · rw [if_pos h0]
  · rw [if_neg h0]
    have ht := tz_le8 m.natAbs (by omega)
    have e1 : zl m = len m.natAbs := rfl
    have hb : blen (oddM m).natAbs ≤ 65536 := by
      have := blen_le_len (oddM m).natAbs
      have h3 := zl_odd m
      have e2 : zl (oddM m) = len (oddM m).natAbs := rfl
      omega
    have ho : bitB (oddM m).natAbs 0 = true := by
      obtain ⟨k, hk⟩ := tz_form (x := m.natAbs) (by omega)
      have hd : m.natAbs / 2 ^ tz m.natAbs = 2 * k + 1 := by
        have := Nat.mul_div_cancel_left (2 * k + 1) (Nat.pow_pos (n := tz m.natAbs) (show 0 < 2 by omega))
        rwa [← hk] at this
      unfold bitB
      rw [oddM_abs, hd, Nat.pow_zero, Nat.div_one]
      exact decide_eq_true (by omega)
    have hf : fits8 (oddM m) (oddE m e) = true := by
      unfold fits8 oddE
      rw [decide_eq_true hb, decide_eq_true (by omega), decide_eq_true (by omega), ho]
      rfl
    rw [hf]
    rfl
theorem dv_shift {m e s : Int} (h : Dv m e) (hz : zl m ≤ 3) (he : -5000 ≤ e ∧ e ≤ 3000) (hs : -100 ≤ s ∧ s ≤ 100) : mkR m (e + s) = 0 ∧ mkM m (e + s) = m ∧ (m = 0 ∨ mkE m (e + s) = e + s) ∧ Dv (mkM m (e + s)) (mkE m (e + s)) ∧ dq (mkM m (e + s)) (mkE m (e + s)) = dq m e * dq 1 s := by
  have hr := mk_fits14 (m := m) (e := e + s) (by omega) (by omega) (by omega)
  have hk := mk_ok hr
  have hq := dq_mk hr
  have hq2 := dq_mul m e 1 s
  rw [Int.mul_one] at hq2
  by_cases h0 : m = 0
  · refine ⟨hr, ?_, Or.inl h0, hk, hq.trans hq2⟩
    unfold mkM
    rw [if_pos hr, h0, oddM_zero]
  · have hd : Dv m (e + s) := by
      rcases h with ⟨h1, _⟩ | ⟨_, h2⟩
      · exact absurd h1 h0
      · refine Or.inr ⟨h0, ?_⟩
        unfold fits8 at *
        rw [Bool.and_eq_true, Bool.and_eq_true, Bool.and_eq_true] at h2
        rw [h2.1, h2.2.2.2, decide_eq_true (show -65536 ≤ e + s by omega), decide_eq_true (show e + s ≤ 65536 by omega)]
        rfl
    obtain ⟨u1, u2⟩ := dv_uniq hk hd hq
    exact ⟨hr, u1, Or.inr u2, hk, hq.trans hq2⟩
/-- What is left behind j rounds. -/
structure ArgR (j : Nat) (m e n f : Int) : Prop where
  vm : Dv m e
  vn : Dv n f
  le : dq m e ≤ dq n f
  zm : zl m ≤ 3
  zn : zl n ≤ 3
  em : m = 0 ∨ (-40 - 20 * (j : Int) ≤ e ∧ e ≤ 136 - 20 * (j : Int))
  en : n = 0 ∨ (-40 - 20 * (j : Int) ≤ f ∧ f ≤ 136 - 20 * (j : Int))
theorem ArgR.small {j : Nat} {m e n f : Int} (h : ArgR j m e n f) (hj : j ≤ 40) : (-1000 ≤ e ∧ e ≤ 1000) ∧ (-1000 ≤ f ∧ f ≤ 1000) := by
  have h1 := h.em
  have h2 := h.en
  constructor
  · rcases h1 with h1 | h1
    · have := dv_zero h.vm h1
      omega
    · omega
  · rcases h2 with h2 | h2
    · have := dv_zero h.vn h2
      omega
    · omega
theorem ArgR.more {j : Nat} {m e n f far : Int} (h : ArgR j m e n f) (hf : 0 ≤ far) (ht : far < topZ m e ∨ far < topZ n f) : j ≤ 11 := by
  have z1 := blen_le_len m.natAbs
  have z2 := blen_le_len n.natAbs
  have e1 : zl m = len m.natAbs := rfl
  have e2 : zl n = len n.natAbs := rfl
  have h1 := h.zm
  have h2 := h.zn
  rcases ht with ht | ht <;> unfold topZ at ht <;> split at ht
  · omega
  · rcases h.em with h3 | h3
    · contradiction
    · omega
  · omega
  · rcases h.en with h3 | h3
    · contradiction
    · omega
theorem ArgR.step {j : Nat} {m e n f : Int} (h : ArgR j m e n f) (hj : j ≤ 40) : ArgR (j + 1) (mkM m (e + -20)) (mkE m (e + -20)) (mkM n (f + -20)) (mkE n (f + -20)) := by
  obtain ⟨s1, s2⟩ := h.small hj
  obtain ⟨_, a1, a2, a3, a4⟩ := dv_shift (s := -20) h.vm h.zm (by omega) (by omega)
  obtain ⟨_, b1, b2, b3, b4⟩ := dv_shift (s := -20) h.vn h.zn (by omega) (by omega)
  refine ⟨a3, b3, ?_, by rw [a1]; exact h.zm, by rw [b1]; exact h.zn, ?_, ?_⟩
  · rw [a4, b4]
    exact Rat.mul_le_mul_of_nonneg_right h.le (Rat.le_of_lt (dq_pos _))
  · rw [a1]
    rcases a2 with a2 | a2
    · exact Or.inl a2
    · rw [a2]
      rcases h.em with h1 | h1
      · exact Or.inl h1
      · exact Or.inr (by omega)
  · rw [b1]
    rcases b2 with b2 | b2
    · exact Or.inl b2
    · rw [b2]
      rcases h.en with h1 | h1
      · exact Or.inl h1
      · exact Or.inr (by omega)
theorem ArgR.first {m e n f : Int} (h1 : Dv m e) (h2 : Dv n f) (hl : dcm m e n f ≤ 0) (z1 : zl m ≤ 2 + 1) (z2 : zl n ≤ 2 + 1) (he : -((40 : Nat) : Int) ≤ e ∧ e ≤ ((40 : Nat) : Int) + 32 * (((2 : Nat) : Int) + 1)) (hf : -((40 : Nat) : Int) ≤ f ∧ f ≤ ((40 : Nat) : Int) + 32 * (((2 : Nat) : Int) + 1)) : ArgR 0 m e n f :=
  ⟨h1, h2, (dcm_le _ _ _ _).1 hl, z1, z2, Or.inr (by omega), Or.inr (by omega)⟩
section
variable {w0 w : World} {ns : List (Value × Nat)} {zs : List (Value × Int)} {qs : List (Value × Int × Nat)} {bs : List (Nat × TypeId × Array Value)} {g : Nat} {v0 v1 v2 v3 v4 v5 : Value}
theorem Lq.putLo (h : Lq w0 w ns zs qs ((g, 28, #[v0, v1, v2, v3, v4, v5]) :: bs)) (hg : w0.heap.size ≤ g) (hd : ∀ p ∈ bs, p.1 ≠ g) (b : Bool) (A : Option Addr) (p c : Nat) (e : Int) :
    Lq w0 (((w.setCell ⟨g, 0, none⟩ (.bool b)).setCell ⟨g, 1, none⟩ (.slice A p c)).setCell ⟨g, 2, none⟩ (.int .i64 e)) ns zs qs ((g, 28, #[.bool b, .slice A p c, .int .i64 e, v3, v4, v5]) :: bs) :=
  ((h.set hg hd 0 (.bool b) (by intro x e; cases e)).set hg hd 1 (.slice A p c) (by intro x e; cases e)).set hg hd 2 (.int .i64 e) (by intro x e; cases e)
theorem Lq.putHi (h : Lq w0 w ns zs qs ((g, 28, #[v0, v1, v2, v3, v4, v5]) :: bs)) (hg : w0.heap.size ≤ g) (hd : ∀ p ∈ bs, p.1 ≠ g) (b : Bool) (A : Option Addr) (p c : Nat) (e : Int) :
    Lq w0 (((w.setCell ⟨g, 3, none⟩ (.bool b)).setCell ⟨g, 4, none⟩ (.slice A p c)).setCell ⟨g, 5, none⟩ (.int .i64 e)) ns zs qs ((g, 28, #[v0, v1, v2, .bool b, .slice A p c, .int .i64 e]) :: bs) :=
  ((h.set hg hd 3 (.bool b) (by intro x e; cases e)).set hg hd 4 (.slice A p c) (by intro x e; cases e)).set hg hd 5 (.int .i64 e) (by intro x e; cases e)
end
/-- What arg returns. -/
def RetArg (w : World) (far : Int) (en : Ending) (w' : World) : Prop := ∃ v ok m e n f, en = .returned (.tuple #[v, .bool ok]) ∧ IsI w' v m e n f ∧ Below w.heap.size w w' ∧ (ok = true → ∃ j, j ≤ 13 ∧ ArgR j m e n f ∧ topZ m e ≤ far ∧ topZ n f ≤ far)

set_option maxHeartbeats 16000000 in
theorem s14arg_any (b b' : Bool) (l l' : List Nat) (A A' : Option Addr) (p c p' c' : Nat) (e0 e1 far : Int) (w : World) (h : Sl w A p c l) (h' : Sl w A' p' c' l') (h1 : -9223372036854775808 ≤ e0) (h2 : e0 ≤ 9223372036854775807) (h3 : -9223372036854775808 ≤ e1) (h4 : e1 ≤ 9223372036854775807) (hfar : 0 ≤ far ∧ far ≤ 100) :
    Calls Tryz.prog 11 #[.agg #[.bool b, .slice A p c, .int .i64 e0, .bool b', .slice A' p' c', .int .i64 e1], .int .i64 far] w (RetArg w far) := by
  have H0 := Lib.hid (fun W (hW : Below w.heap.size w W) => millI_any b b' l l' 2 40 A A' p c p' c' e0 e1 W (h.mono hW) (h'.mono hW) (by omega) (by omega) h1 h2 h3 h4)
  clear h h' h1 h2 h3 h4
  go_enter Tryz.func11, Tryz.ntmps11
  go_wp2_with fail
  have L := (((Lq.mk0 w).varI (w.heap.size) (by simp) b A p c e0 b' A' p' c' e1).varI (w.heap.size + 1) (by simp) false none 0 0 0 false none 0 0 0)
  have c10 := L.tl.b0.c60
  have c11 := L.tl.b0.c61
  have c12 := L.tl.b0.c62
  have c13 := L.tl.b0.c63
  have c14 := L.tl.b0.c64
  have c15 := L.tl.b0.c65
  (try go_wp2_with fail)
  refine (H0.out _ L.below).mono ?_
  rintro e w1 ⟨vv, ok, m, e, n, f, rfl, ii, zz, be1, bf1, hdv, hcm, be⟩
  clear c10 c11 c12 c13 c14 c15
  obtain ⟨A6, c6, B6, d6, rfl, ia, ib⟩ := ii.form
  replace L := ((L.step be).n ib).n ia
  clear be ii ia ib
  have hl0 := L.b0.lt
  have hl1 := L.tl.b0.lt
  replace L := L.varI w1.heap.size rfl (ng m) A6 (zl m) c6 e (ng n) B6 (zl n) d6 f
  have HA := Lib.hid (fun h : ok = true => ArgR.first (hdv h).1 (hdv h).2 hcm zz.1 zz.2 be1 bf1)
  clear hdv hcm zz be1 bf1 H0
  cases ok
  · clear hl0 hl1
    have c00 := L.b0.c60
    have c01 := L.b0.c61
    have c02 := L.b0.c62
    have c03 := L.b0.c63
    have c04 := L.b0.c64
    have c05 := L.b0.c65
    have LS := L.subx (ns' := [(.slice A6 (zl m) c6, m.natAbs), (.slice B6 (zl n) d6, n.natAbs)]) (bs' := [(w.heap.size + 1, 28, #[.bool false, .slice none 0 0, .int .i64 0, .bool false, .slice none 0 0, .int .i64 0])]) (by simp) (by simp)
    have s0 := LS.b0.c60
    have r0 := LS.b0.fr 0
    have s1 := LS.b0.c61
    have r1 := LS.b0.fr 1
    have s2 := LS.b0.c62
    have r2 := LS.b0.fr 2
    have s3 := LS.b0.c63
    have r3 := LS.b0.fr 3
    have s4 := LS.b0.c64
    have r4 := LS.b0.fr 4
    have s5 := LS.b0.c65
    have r5 := LS.b0.fr 5
    go_wp2_with fail
    have LP := LS.putI (by omega) (by simp) (ng m) A6 (zl m) c6 e (ng n) B6 (zl n) d6 f
    have k0 := LP.b0.c60
    have k1 := LP.b0.c61
    have k2 := LP.b0.c62
    have k3 := LP.b0.c63
    have k4 := LP.b0.c64
    have k5 := LP.b0.c65
    unfold put6 at k0 k1 k2 k3 k4 k5
    exact bodyPost_ret (v := .tuple #[.agg #[.bool (ng m), .slice A6 (zl m) c6, .int .i64 e, .bool (ng n), .slice B6 (zl n) d6, .int .i64 f], .bool false]) (by simp [results, Tryz.results11, go_sem, k0, k1, k2, k3, k4, k5]) rfl ⟨_, _, m, e, n, f, rfl, isI_n (LP.getN (by simp)) (LP.getN (by simp)), LP.below, (fun h => by cases h)⟩
  · have HR := Lib.hid (HA.out rfl)
    clear HA
    have c00 := L.b0.c60
    have c01 := L.b0.c61
    have c02 := L.b0.c62
    have c03 := L.b0.c63
    have c04 := L.b0.c64
    have c05 := L.b0.c65
    go_wp2_with fail
    clear c00 c01 c02 c03 c04 c05
    obtain ⟨g6, hg6⟩ : ∃ g9, w1.heap.size = g9 := ⟨_, rfl⟩
    rw [hg6] at L hl0 hl1 ⊢
    clear hg6
    go_loopg [] 13 (fun k9 wr => ∃ (j : Nat) (m e n f : Int) (A6 B6 : Option Addr) (c6 d6 : Nat), j + k9 = 13 ∧ Lq w wr [(.slice A6 (zl m) c6, m.natAbs), (.slice B6 (zl n) d6, n.natAbs)] [] [] [(g6, 28, #[.bool (ng m), .slice A6 (zl m) c6, .int .i64 e, .bool (ng n), .slice B6 (zl n) d6, .int .i64 f]), (w.heap.size + 1, 28, #[.bool false, .slice none 0 0, .int .i64 0, .bool false, .slice none 0 0, .int .i64 0])] ∧ Hid (ArgR j m e n f))
    case atStart => exact ⟨0, m, e, n, f, A6, B6, c6, d6, by omega, L.subx (by simp) (by simp), HR⟩
    case round =>
      clear L HR
      obtain ⟨j, m, e, n, f, A6, B6, c6, d6, hjk, L, HR⟩ := hrel
      obtain ⟨sm1, sm2⟩ := HR.out.small (by omega)
      have zm := HR.out.zm
      have zn := HR.out.zn
      have t1 := fun x W h => rtop_any m e x W h (by omega) (by omega)
      have t2 := fun x W h => rtop_any n f x W h (by omega) (by omega)
      have k1 := fun x W h => rshift8_any m e (-20) x W h (by omega) (by omega) (by omega)
      have k2 := fun x W h => rshift8_any n f (-20) x W h (by omega) (by omega) (by omega)
      have hmore := HR.out.more hfar.1
      have hst := HR.out.step (show j ≤ 40 by omega)
      obtain ⟨T1, hT1⟩ : ∃ z, topZ m e = z := ⟨_, rfl⟩
      rw [hT1] at t1 hmore
      obtain ⟨T2, hT2⟩ : ∃ z, topZ n f = z := ⟨_, rfl⟩
      rw [hT2] at t2 hmore
      obtain ⟨M9, hM9⟩ : ∃ z, mkM m (e + -20) = z := ⟨_, rfl⟩
      rw [hM9] at k1 hst
      obtain ⟨E9, hE9⟩ : ∃ z, mkE m (e + -20) = z := ⟨_, rfl⟩
      rw [hE9] at k1 hst
      obtain ⟨R9, hR9⟩ : ∃ z, mkR m (e + -20) = z := ⟨_, rfl⟩
      rw [hR9] at k1
      obtain ⟨N9, hN9⟩ : ∃ z, mkM n (f + -20) = z := ⟨_, rfl⟩
      rw [hN9] at k2 hst
      obtain ⟨F9, hF9⟩ : ∃ z, mkE n (f + -20) = z := ⟨_, rfl⟩
      rw [hF9] at k2 hst
      obtain ⟨R8, hR8⟩ : ∃ z, mkR n (f + -20) = z := ⟨_, rfl⟩
      rw [hR8] at k2
      have HT1 := Lib.hid t1
      have HT2 := Lib.hid t2
      have HK1 := Lib.hid k1
      have HK2 := Lib.hid k2
      have HTE := Lib.hid (And.intro hT1 hT2)
      have HST := Lib.hid hst
      have hl0 := L.b0.lt
      clear t1 t2 k1 k2 hT1 hT2 hM9 hE9 hR9 hN9 hF9 hR8 hst sm1 sm2 zm zn
      rcases Int.lt_or_le far T1 with q1 | q1
      · have hj := hmore (Or.inl q1)
        have d1 : decide (far < T1) = true := decide_eq_true q1
        have cel00 := L.b0.c60
        have cel01 := L.b0.c61
        have cel02 := L.b0.c62
        have cel03 := L.b0.c63
        have cel04 := L.b0.c64
        have cel05 := L.b0.c65
        go_wp2_with fail
        refine (HT1.out _ _ (isD_n (m := m) (e := e) (s := .slice A6 (zl m) c6) (L.getN (by simp)))).mono ?_
        rintro e w21 ⟨rfl, be⟩
        clear cel00 cel01 cel02 cel03 cel04 cel05
        replace L := L.step be
        clear be
        have cel00 := L.b0.c60
        have cel01 := L.b0.c61
        have cel02 := L.b0.c62
        have cel03 := L.b0.c63
        have cel04 := L.b0.c64
        have cel05 := L.b0.c65
        (try go_wp2_with fail)
        refine (HK1.out _ _ (isD_n (m := m) (e := e) (s := .slice A6 (zl m) c6) (L.getN (by simp)))).mono ?_
        rintro e w22 ⟨vv, rfl, id, be⟩
        clear cel00 cel01 cel02 cel03 cel04 cel05
        obtain ⟨A7, c7, rfl, _, in9⟩ := id.form
        replace L := (L.step be).n in9
        clear be id in9
        have cel00 := L.b0.c60
        have f00 := L.b0.fr 0
        have cel01 := L.b0.c61
        have f01 := L.b0.fr 1
        have cel02 := L.b0.c62
        have f02 := L.b0.fr 2
        have cel03 := L.b0.c63
        have f03 := L.b0.fr 3
        have cel04 := L.b0.c64
        have f04 := L.b0.fr 4
        have cel05 := L.b0.c65
        have f05 := L.b0.fr 5
        have P := L.putLo (by omega) (by simp; omega) (ng M9) A7 (zl M9) c7 E9
        have p0 := P.b0.c60
        have p1 := P.b0.c61
        have p2 := P.b0.c62
        have p3 := P.b0.c63
        have p4 := P.b0.c64
        have p5 := P.b0.c65
        go_wp2_with fail
        replace L := P
        clear P p0 p1 p2 p3 p4 p5
        clear cel00 f00 cel01 f01 cel02 f02 cel03 f03 cel04 f04 cel05 f05
        refine (HK2.out _ _ (isD_n (m := n) (e := f) (s := .slice B6 (zl n) d6) (L.getN (by simp)))).mono ?_
        rintro e w23 ⟨vv, rfl, id, be⟩
        obtain ⟨A8, c8, rfl, _, in9⟩ := id.form
        replace L := (L.step be).n in9
        clear be id in9
        have cel00 := L.b0.c60
        have f00 := L.b0.fr 0
        have cel01 := L.b0.c61
        have f01 := L.b0.fr 1
        have cel02 := L.b0.c62
        have f02 := L.b0.fr 2
        have cel03 := L.b0.c63
        have f03 := L.b0.fr 3
        have cel04 := L.b0.c64
        have f04 := L.b0.fr 4
        have cel05 := L.b0.c65
        have f05 := L.b0.fr 5
        have P := L.putHi (by omega) (by simp; omega) (ng N9) A8 (zl N9) c8 F9
        go_wp2_with fail
        go_roundg (gk - 1)
        case measure => omega
        case rel => exact ⟨j + 1, M9, E9, N9, F9, A7, A8, c7, c8, by omega, P.subx (by simp) (by simp), HST⟩
      · have d1 : decide (far < T1) = false := decide_eq_false (by omega)
        have cel00 := L.b0.c60
        have cel01 := L.b0.c61
        have cel02 := L.b0.c62
        have cel03 := L.b0.c63
        have cel04 := L.b0.c64
        have cel05 := L.b0.c65
        go_wp2_with fail
        refine (HT1.out _ _ (isD_n (m := m) (e := e) (s := .slice A6 (zl m) c6) (L.getN (by simp)))).mono ?_
        rintro e w21 ⟨rfl, be⟩
        clear cel00 cel01 cel02 cel03 cel04 cel05
        replace L := L.step be
        clear be
        have cel00 := L.b0.c60
        have cel01 := L.b0.c61
        have cel02 := L.b0.c62
        have cel03 := L.b0.c63
        have cel04 := L.b0.c64
        have cel05 := L.b0.c65
        (try go_wp2_with fail)
        refine (HT2.out _ _ (isD_n (m := n) (e := f) (s := .slice B6 (zl n) d6) (L.getN (by simp)))).mono ?_
        rintro e w22 ⟨rfl, be⟩
        clear cel00 cel01 cel02 cel03 cel04 cel05
        replace L := L.step be
        clear be
        rcases Int.lt_or_le far T2 with q2 | q2
        · have hj := hmore (Or.inr q2)
          have d2 : decide (far < T2) = true := decide_eq_true q2
          have cel00 := L.b0.c60
          have cel01 := L.b0.c61
          have cel02 := L.b0.c62
          have cel03 := L.b0.c63
          have cel04 := L.b0.c64
          have cel05 := L.b0.c65
          (try go_wp2_with fail)
          refine (HK1.out _ _ (isD_n (m := m) (e := e) (s := .slice A6 (zl m) c6) (L.getN (by simp)))).mono ?_
          rintro e w23 ⟨vv, rfl, id, be⟩
          clear cel00 cel01 cel02 cel03 cel04 cel05
          obtain ⟨A7, c7, rfl, _, in9⟩ := id.form
          replace L := (L.step be).n in9
          clear be id in9
          have cel00 := L.b0.c60
          have f00 := L.b0.fr 0
          have cel01 := L.b0.c61
          have f01 := L.b0.fr 1
          have cel02 := L.b0.c62
          have f02 := L.b0.fr 2
          have cel03 := L.b0.c63
          have f03 := L.b0.fr 3
          have cel04 := L.b0.c64
          have f04 := L.b0.fr 4
          have cel05 := L.b0.c65
          have f05 := L.b0.fr 5
          have P := L.putLo (by omega) (by simp; omega) (ng M9) A7 (zl M9) c7 E9
          have p0 := P.b0.c60
          have p1 := P.b0.c61
          have p2 := P.b0.c62
          have p3 := P.b0.c63
          have p4 := P.b0.c64
          have p5 := P.b0.c65
          go_wp2_with fail
          replace L := P
          clear P p0 p1 p2 p3 p4 p5
          clear cel00 f00 cel01 f01 cel02 f02 cel03 f03 cel04 f04 cel05 f05
          refine (HK2.out _ _ (isD_n (m := n) (e := f) (s := .slice B6 (zl n) d6) (L.getN (by simp)))).mono ?_
          rintro e w24 ⟨vv, rfl, id, be⟩
          obtain ⟨A8, c8, rfl, _, in9⟩ := id.form
          replace L := (L.step be).n in9
          clear be id in9
          have cel00 := L.b0.c60
          have f00 := L.b0.fr 0
          have cel01 := L.b0.c61
          have f01 := L.b0.fr 1
          have cel02 := L.b0.c62
          have f02 := L.b0.fr 2
          have cel03 := L.b0.c63
          have f03 := L.b0.fr 3
          have cel04 := L.b0.c64
          have f04 := L.b0.fr 4
          have cel05 := L.b0.c65
          have f05 := L.b0.fr 5
          have P := L.putHi (by omega) (by simp; omega) (ng N9) A8 (zl N9) c8 F9
          go_wp2_with fail
          go_roundg (gk - 1)
          case measure => omega
          case rel => exact ⟨j + 1, M9, E9, N9, F9, A7, A8, c7, c8, by omega, P.subx (by simp) (by simp), HST⟩
        · have d2 : decide (far < T2) = false := decide_eq_false (by omega)
          have cel00 := L.b0.c60
          have cel01 := L.b0.c61
          have cel02 := L.b0.c62
          have cel03 := L.b0.c63
          have cel04 := L.b0.c64
          have cel05 := L.b0.c65
          have LS := L.subx (ns' := [(.slice A6 (zl m) c6, m.natAbs), (.slice B6 (zl n) d6, n.natAbs)]) (bs' := [(w.heap.size + 1, 28, #[.bool false, .slice none 0 0, .int .i64 0, .bool false, .slice none 0 0, .int .i64 0])]) (by simp) (by simp)
          have s0 := LS.b0.c60
          have r0 := LS.b0.fr 0
          have s1 := LS.b0.c61
          have r1 := LS.b0.fr 1
          have s2 := LS.b0.c62
          have r2 := LS.b0.fr 2
          have s3 := LS.b0.c63
          have r3 := LS.b0.fr 3
          have s4 := LS.b0.c64
          have r4 := LS.b0.fr 4
          have s5 := LS.b0.c65
          have r5 := LS.b0.fr 5
          go_wp2_with fail
          have LP := LS.putI (by omega) (by simp) (ng m) A6 (zl m) c6 e (ng n) B6 (zl n) d6 f
          have k0 := LP.b0.c60
          have k1 := LP.b0.c61
          have k2 := LP.b0.c62
          have k3 := LP.b0.c63
          have k4 := LP.b0.c64
          have k5 := LP.b0.c65
          unfold put6 at k0 k1 k2 k3 k4 k5
          exact bodyPost_ret (v := .tuple #[.agg #[.bool (ng m), .slice A6 (zl m) c6, .int .i64 e, .bool (ng n), .slice B6 (zl n) d6, .int .i64 f], .bool true]) (by simp [results, Tryz.results11, go_sem, k0, k1, k2, k3, k4, k5]) rfl ⟨_, _, m, e, n, f, rfl, isI_n (LP.getN (by simp)) (LP.getN (by simp)), LP.below, (fun _ => ⟨j, by omega, HR.out, by rw [HTE.out.1]; exact q1, by rw [HTE.out.2]; exact q2⟩)⟩

/-- An argument of a law: valid, not long, and less than 2^B. -/
structure ArgX (B m e n f : Int) : Prop where
  vm : Dv m e
  vn : Dv n f
  le : dq m e ≤ dq n f
  zm : zl m ≤ 60
  zn : zl n ≤ 60
  em : -3000 ≤ e ∧ e ≤ 3000
  en : -3000 ≤ f ∧ f ≤ 3000
  lo : -dq 1 B ≤ dq m e
  hi : dq n f ≤ dq 1 B
theorem ArgX.of {j : Nat} {m e n f B : Int} (h : ArgR j m e n f) (hj : j ≤ 13) (t1 : topZ m e ≤ B) (t2 : topZ n f ≤ B) : ArgX B m e n f := by
  obtain ⟨s1, s2⟩ := h.small (by omega)
  obtain ⟨a1, _⟩ := top_bd m e
  obtain ⟨_, b2⟩ := top_bd n f
  exact ⟨h.vm, h.vn, h.le, Nat.le_trans h.zm (by omega), Nat.le_trans h.zn (by omega), by omega, by omega, Rat.le_trans (Rat.neg_le_neg (dq_anti t1)) a1, Rat.le_trans b2 (dq_anti t2)⟩
theorem ArgX.all {B m e n f : Int} (h : ArgX B m e n f) (hB : B ≤ 8) : smallB m e n f = true ∧ topZ m e ≤ 11 ∧ topZ n f ≤ 11 ∧ -256 ≤ dq m e ∧ dq n f ≤ 256 := by
  have v8 : dq 1 8 = 256 := by decide +kernel
  have v11 : dq 1 11 = 2048 := by decide +kernel
  have hb := dq_anti hB
  rw [v8] at hb
  have l1 : -256 ≤ dq m e := Rat.le_trans (Rat.neg_le_neg hb) h.lo
  have l2 : dq n f ≤ 256 := Rat.le_trans h.hi hb
  have l3 := h.le
  have tm : topZ m e ≤ 11 := by
    refine (top_iff (by omega)).2 ?_
    rw [v11]
    generalize dq m e = p at *
    generalize dq n f = q at *
    clear h hb
    constructor <;> grind
  have tn : topZ n f ≤ 11 := by
    refine (top_iff (by omega)).2 ?_
    rw [v11]
    generalize dq m e = p at *
    generalize dq n f = q at *
    clear h hb
    constructor <;> grind
  have em := h.em
  have en := h.en
  exact ⟨small14 h.zm h.zn (by omega) (by omega) ((dcm_le _ _ _ _).2 h.le) (by omega) (by omega), tm, tn, l1, l2⟩
theorem ArgX.to200 {B m e n f : Int} (h : ArgX B m e n f) (hB : B ≤ 7) : dq n f ≤ 200 := by
  have v7 : dq 1 7 = 128 := by decide +kernel
  have hb := dq_anti hB
  rw [v7] at hb
  refine Rat.le_trans h.hi (Rat.le_trans hb ?_)
  decide
/-- An enclosure of numbers that are not too large. -/
theorem en14 {lo hi : Rat} {k J : Nat} (hk : k ≤ 220) (hJ : J ≤ 700) (h1 : -dq 1 (J : Int) ≤ lo) (h2 : hi ≤ dq 1 (J : Int)) (hle : lo ≤ hi) : ∃ S1 S2 : Int,
    (∀ W, RetEn W lo hi (k : Int) = RetIE W (mkM S1 (-(k : Int))) (mkE S1 (-(k : Int))) (mkM S2 (-(k : Int))) (mkE S2 (-(k : Int))) 0) ∧ AbP S1 (k + J) ∧ AbP S2 (k + J) ∧
    dq S1 (-(k : Int)) ≤ lo ∧ lo ≤ dq S1 (-(k : Int)) + dq 1 (-(k : Int)) ∧ hi ≤ dq S2 (-(k : Int)) ∧ dq S2 (-(k : Int)) ≤ hi + dq 1 (-(k : Int)) := by
  have c1 := cut_lo lo (k : Int)
  have c2 := cut_hi lo (k : Int)
  have c3 := cut_lo (-hi) (k : Int)
  have c4 := cut_hi (-hi) (k : Int)
  obtain ⟨S1, hS1⟩ : ∃ z, cutQ lo (k : Int) = z := ⟨_, rfl⟩
  obtain ⟨S2, hS2⟩ : ∃ z, -(cutQ (-hi) (k : Int)) = z := ⟨_, rfl⟩
  rw [hS1] at c1 c2
  rw [show cutQ (-hi) (k : Int) = -S2 by omega, dq_neg] at c3 c4
  have eJ := unit_up k J
  have b1 : S1 ≤ 2 ^ (k + J) := (dq_le_iff _ _ (-(k : Int))).1 (by
    rw [← eJ]
    exact Rat.le_trans c1 (Rat.le_trans hle h2))
  have b2 : -(2 ^ (k + J)) - 1 < S1 := by
    refine Int.not_le.1 fun h => ?_
    have h9 := (dq_le_iff (S1 + 1) (-(2 ^ (k + J))) (-(k : Int))).2 (by omega)
    rw [dq_neg, ← eJ, dq_succ] at h9
    generalize dq 1 (J : Int) = P at *
    generalize dq 1 (-(k : Int)) = u at *
    generalize dq S1 (-(k : Int)) = s at *
    clear c3 c4 hS1 hS2
    grind
  have b3 : -(2 ^ (k + J)) ≤ S2 := (dq_le_iff _ _ (-(k : Int))).1 (by
    rw [dq_neg, ← eJ]
    generalize dq 1 (J : Int) = P at *
    generalize dq S2 (-(k : Int)) = s at *
    clear c1 c2 c4 hS1 hS2
    grind)
  have b4 : S2 < 2 ^ (k + J) + 1 := by
    refine Int.not_le.1 fun h => ?_
    have h9 := (dq_le_iff (2 ^ (k + J) + 1) S2 (-(k : Int))).2 h
    rw [dq_succ, ← eJ] at h9
    generalize dq 1 (J : Int) = P at *
    generalize dq 1 (-(k : Int)) = u at *
    generalize dq S2 (-(k : Int)) = s at *
    clear c1 c2 c3 hS1 hS2
    grind
  have eP : (((2 : Nat) ^ (k + J) : Nat) : Int) = 2 ^ (k + J) := by simp
  rw [← eP] at b1 b2 b3 b4
  have a1 : AbP S1 (k + J) := by unfold AbP; omega
  have a2 : AbP S2 (k + J) := by unfold AbP; omega
  have z1 := a1.zl
  have z2 := a2.zl
  have hwk : workB (k : Int) = true := by
    unfold workB
    rw [decide_eq_true (show (0 : Int) ≤ (k : Int) by omega), decide_eq_true (show (k : Int) ≤ 4096 by omega)]
    rfl
  have hr := RetEn.ok (lo := lo) (hi := hi) hwk (z := 40) (by rw [hS1]; omega) (by rw [hS2]; omega) (by omega) hle
  refine ⟨S1, S2, fun W => ?_, a1, a2, c1, Rat.le_of_lt c2, ?_, ?_⟩
  · rw [hr W]
    unfold enM enE upM upE
    rw [hS1, hS2]
  · generalize dq S2 (-(k : Int)) = s at *
    clear c1 c2 c4 hr
    grind
  · generalize dq S2 (-(k : Int)) = s at *
    generalize dq 1 (-(k : Int)) = u at *
    clear c1 c2 c3 hr
    grind
theorem unit_le (k : Nat) : dq 1 (-(k : Int)) ≤ 1 := by
  have := dq_anti (a := -(k : Int)) (b := 0) (by omega)
  have v0 : dq 1 0 = 1 := by decide +kernel
  rwa [v0] at this
/-- Such an enclosure as an argument. -/
theorem en_arg {lo hi : Rat} {k J : Nat} {S1 S2 : Int} (hk : k ≤ 220) (hJ : J ≤ 700) (a1 : AbP S1 (k + J)) (a2 : AbP S2 (k + J)) (c1 : dq S1 (-(k : Int)) ≤ lo) (c2 : lo ≤ dq S1 (-(k : Int)) + dq 1 (-(k : Int))) (c3 : hi ≤ dq S2 (-(k : Int))) (c4 : dq S2 (-(k : Int)) ≤ hi + dq 1 (-(k : Int)))
    (h1 : -64 ≤ lo) (h2 : hi ≤ 64) (hle : lo ≤ hi) : ArgX 7 (mkM S1 (-(k : Int))) (mkE S1 (-(k : Int))) (mkM S2 (-(k : Int))) (mkE S2 (-(k : Int))) := by
  obtain ⟨x1, x2, x3, x4, x5⟩ := np a1 (by omega) (show k ≤ 3000 by omega)
  obtain ⟨y1, y2, y3, y4, y5⟩ := np a2 (by omega) (show k ≤ 3000 by omega)
  have v7 : dq 1 7 = 128 := by decide +kernel
  have hu := unit_le k
  refine ⟨x4, y4, ?_, by omega, by omega, by omega, by omega, ?_, ?_⟩
  · rw [x5, y5]; exact Rat.le_trans c1 (Rat.le_trans hle c3)
  · rw [x5, v7]
    generalize dq 1 (-(k : Int)) = u at *
    generalize dq S1 (-(k : Int)) = s at *
    clear x5 y5 c3 c4
    grind
  · rw [y5, v7]
    generalize dq 1 (-(k : Int)) = u at *
    generalize dq S2 (-(k : Int)) = s at *
    clear x5 y5 c1 c2
    grind
/-- The size of a result. -/
theorem ep_size {k : Nat} {a : Int} (h : AbP a (k + 302)) : -dq 1 302 ≤ dq a (-(k : Int)) ∧ dq a (-(k : Int)) ≤ dq 1 302 := by
  rw [show (302 : Int) = ((302 : Nat) : Int) from rfl, unit_up k 302, ← dq_neg, dq_le_iff, dq_le_iff]
  unfold AbP at h
  have eP : (((2 : Nat) ^ (k + 302) : Nat) : Int) = 2 ^ (k + 302) := by simp
  rw [← eP]
  omega
/-- Products of what is not negative and of what may be anything between: all four products lie within 2^604. -/
theorem prod_size {a b : Rat} {P : Rat} (ha : -P ≤ a ∧ a ≤ P) (hb : -P ≤ b ∧ b ≤ P) (hP : 0 ≤ P) : -(P * P) ≤ a * b ∧ a * b ≤ P * P := by
  obtain ⟨a1, a2⟩ := ha
  obtain ⟨b1, b2⟩ := hb
  have h1 := Rat.mul_nonneg (show 0 ≤ P - a by grind) (show 0 ≤ P - b by grind)
  have h2 := Rat.mul_nonneg (show 0 ≤ P + a by grind) (show 0 ≤ P + b by grind)
  have h3 := Rat.mul_nonneg (show 0 ≤ P - a by grind) (show 0 ≤ P + b by grind)
  have h4 := Rat.mul_nonneg (show 0 ≤ P + a by grind) (show 0 ≤ P - b by grind)
  constructor <;> grind
/-- The enclosure of a product of two results. -/
theorem en_mul {k : Nat} {a b c d : Int} (hk : k ≤ 220) (ha : AbP a (k + 302)) (hb : AbP b (k + 302)) (hc : AbP c (k + 302)) (hd : AbP d (k + 302)) : ∃ S1 S2 : Int,
    (∀ W, RetEn W (min4 (dq a (-(k : Int)) * dq c (-(k : Int))) (dq a (-(k : Int)) * dq d (-(k : Int))) (dq b (-(k : Int)) * dq c (-(k : Int))) (dq b (-(k : Int)) * dq d (-(k : Int)))) (max4 (dq a (-(k : Int)) * dq c (-(k : Int))) (dq a (-(k : Int)) * dq d (-(k : Int))) (dq b (-(k : Int)) * dq c (-(k : Int))) (dq b (-(k : Int)) * dq d (-(k : Int)))) (k : Int) = RetIE W (mkM S1 (-(k : Int))) (mkE S1 (-(k : Int))) (mkM S2 (-(k : Int))) (mkE S2 (-(k : Int))) 0) ∧
    AbP S1 (k + 604) ∧ AbP S2 (k + 604) ∧ dq S1 (-(k : Int)) ≤ dq a (-(k : Int)) * dq c (-(k : Int)) ∧ dq b (-(k : Int)) * dq d (-(k : Int)) ≤ dq S2 (-(k : Int)) := by
  have hP := Rat.le_of_lt (dq_pos 302)
  have p1 := prod_size (ep_size ha) (ep_size hc) hP
  have p2 := prod_size (ep_size ha) (ep_size hd) hP
  have p3 := prod_size (ep_size hb) (ep_size hc) hP
  have p4 := prod_size (ep_size hb) (ep_size hd) hP
  rw [← dq_add1, show (302 : Int) + 302 = ((604 : Nat) : Int) from rfl] at p1 p2 p3 p4
  have m1 := min4_le (dq a (-(k : Int)) * dq c (-(k : Int))) (dq a (-(k : Int)) * dq d (-(k : Int))) (dq b (-(k : Int)) * dq c (-(k : Int))) (dq b (-(k : Int)) * dq d (-(k : Int)))
  have m2 := le_max4 (dq a (-(k : Int)) * dq c (-(k : Int))) (dq a (-(k : Int)) * dq d (-(k : Int))) (dq b (-(k : Int)) * dq c (-(k : Int))) (dq b (-(k : Int)) * dq d (-(k : Int)))
  have lo : -dq 1 ((604 : Nat) : Int) ≤ min4 (dq a (-(k : Int)) * dq c (-(k : Int))) (dq a (-(k : Int)) * dq d (-(k : Int))) (dq b (-(k : Int)) * dq c (-(k : Int))) (dq b (-(k : Int)) * dq d (-(k : Int))) := by
    rcases min4_or (dq a (-(k : Int)) * dq c (-(k : Int))) (dq a (-(k : Int)) * dq d (-(k : Int))) (dq b (-(k : Int)) * dq c (-(k : Int))) (dq b (-(k : Int)) * dq d (-(k : Int))) with h | h | h | h <;> rw [h]
    · exact p1.1
    · exact p2.1
    · exact p3.1
    · exact p4.1
  have hi : max4 (dq a (-(k : Int)) * dq c (-(k : Int))) (dq a (-(k : Int)) * dq d (-(k : Int))) (dq b (-(k : Int)) * dq c (-(k : Int))) (dq b (-(k : Int)) * dq d (-(k : Int))) ≤ dq 1 ((604 : Nat) : Int) := by
    rcases max4_or (dq a (-(k : Int)) * dq c (-(k : Int))) (dq a (-(k : Int)) * dq d (-(k : Int))) (dq b (-(k : Int)) * dq c (-(k : Int))) (dq b (-(k : Int)) * dq d (-(k : Int))) with h | h | h | h <;> rw [h]
    · exact p1.2
    · exact p2.2
    · exact p3.2
    · exact p4.2
  obtain ⟨S1, S2, h1, h2, h3, h4, _, h5, _⟩ := en14 hk (by omega) lo hi (Rat.le_trans m1.1 m2.1)
  exact ⟨S1, S2, h1, h2, h3, Rat.le_trans h4 m1.1, Rat.le_trans m2.2.2.2 h5⟩
/-- Products of exponentials: the lower ends. -/
theorem lo_mul {k : Nat} {a b : Int} {x y : Rat} (ha : EpA k a x) (hb : EpA k b y) : LoE (dq a (-(k : Int)) * dq b (-(k : Int))) (x + y) := by
  have a0 := (dq_le_iff 0 a (-(k : Int))).2 ha.1
  have b0 := (dq_le_iff 0 b (-(k : Int))).2 hb.1
  rw [dq_zero] at a0 b0
  by_cases h1 : 0 < dq a (-(k : Int))
  · by_cases h2 : 0 < dq b (-(k : Int))
    · exact ha.2.2.1.add hb.2.2.1 h1 h2
    · have e : dq b (-(k : Int)) = 0 := by
        generalize dq b (-(k : Int)) = q at *
        clear ha hb h1 a0
        grind
      rw [e, Rat.mul_zero]
      exact LoE.zero _
  · have e : dq a (-(k : Int)) = 0 := by
      generalize dq a (-(k : Int)) = q at *
      clear ha hb b0
      grind
    rw [e, Rat.zero_mul]
    exact LoE.zero _


section
open Go.ChangeShapes Go.WideShapes Go.ChangeAt

theorem open_slice8 {H : Type} {enc : TypeId × Value → H} {W : World} {base : Nat} {fuel : Nat} {v : Value} {x : DataW H × List MemPlace} (h : DataW.trod enc Tryz.prog W base (fun _ => true) true fuel 22 [v] = some x) : ∃ a n c l, v = .slice a n c ∧ Sl W a n c l := by
  rcases open_ints Tryz.underlying22 Tryz.underlying129 (by kernel_rfl) h with ⟨hcs, _⟩ | ⟨x, l, c, zs, hcs, _, hl, hm, hz, _, hcell, hwz⟩
  · exact ⟨none, 0, 0, [], by simpa using hcs, Sl.nil W⟩
  · exact ⟨_, _, _, _, by simpa using hcs, sl_of_ints hl hm (by simpa using hz) hcell hwz⟩
end
section
open Go.ChangeShapes Go.WideShapes Go.ChangeAt

theorem array6 {a : Array Value} (h : a.size = 6) : ∃ x0 x1 x2 x3 x4 x5, a = #[x0, x1, x2, x3, x4, x5] := by
  obtain ⟨l⟩ := a
  rcases l with _ | ⟨x0, _ | ⟨x1, _ | ⟨x2, _ | ⟨x3, _ | ⟨x4, _ | ⟨x5, _ | ⟨x6, l⟩⟩⟩⟩⟩⟩⟩ <;> first | exact ⟨_, _, _, _, _, _, rfl⟩ | (exfalso; simp at h)
theorem open_dy3 {H : Type} {enc : TypeId × Value → H} {W : World} {base n : Nat} {c0 c1 c2 : Value} {y : DataW H × List MemPlace} (h : DataW.trod enc Tryz.prog W base (fun _ => true) true n 26 [c0, c1, c2] = some y) :
    ∃ b A p c l e, c0 = .bool b ∧ c1 = .slice A p c ∧ c2 = .int .i64 e ∧ Sl W A p c l ∧ -9223372036854775808 ≤ e ∧ e ≤ 9223372036854775807 := by
  obtain ⟨y0, y1, n, _, _, h0, h1⟩ := trod_struct2 Tryz.underlying26 h
  have e0 : Tryz.prog.cellsOf 24 = 2 := by kernel_rfl
  have e1 : Tryz.prog.cellsOf 22 = 1 := by kernel_rfl
  have e3 : Tryz.prog.cellsOf 3 = 1 := by kernel_rfl
  have h0' : DataW.trod enc Tryz.prog W base (fun _ => true) true n 24 [c0, c1] = some y0 := by
    simpa [Value.cells, e0] using h0
  have h1' : DataW.trod enc Tryz.prog W base (fun _ => true) true n 3 [c2] = some y1 := by
    simpa [Value.cells, e0, e3] using h1
  obtain ⟨z0, z1, n2, _, _, g0, g1⟩ := trod_struct2 Tryz.underlying24 h0'
  have e2 : Tryz.prog.cellsOf 4 = 1 := by kernel_rfl
  have g0' : DataW.trod enc Tryz.prog W base (fun _ => true) true n2 4 [c0] = some z0 := by
    simpa [e2] using g0
  have g1' : DataW.trod enc Tryz.prog W base (fun _ => true) true n2 22 [c1] = some z1 := by
    simpa [e1, e2] using g1
  obtain ⟨b, hb, _⟩ := DataW.trod_bool Tryz.underlying4 g0'
  obtain rfl : c0 = .bool b := by simpa using hb
  obtain ⟨A, n3, c3, l, rfl, s1⟩ := open_slice8 g1'
  obtain ⟨e, he, _, hw⟩ := DataW.trod_int Tryz.underlying3 h1'
  obtain rfl : c2 = .int .i64 e := by simpa using he
  obtain ⟨k1, k2⟩ := bounds_i64 hw
  exact ⟨b, A, n3, c3, l, e, rfl, rfl, rfl, s1, k1, k2⟩
theorem open_iv {H : Type} {enc : TypeId × Value → H} {W : World} {r : Reach} {b0 base : Nat} {v : Value} {d : DataW H} {p : List MemPlace} (hv : Value.okWide Tryz.prog W r b0 28 v) (h : DataW.Trod enc Tryz.prog W base (fun _ => true) true 28 v d p) :
    ∃ b A n c l e b' A' n' c' l' e', v = .agg #[.bool b, .slice A n c, .int .i64 e, .bool b', .slice A' n' c', .int .i64 e'] ∧ (Sl W A n c l ∧ -9223372036854775808 ≤ e ∧ e ≤ 9223372036854775807) ∧ (Sl W A' n' c' l' ∧ -9223372036854775808 ≤ e' ∧ e' ≤ 9223372036854775807) := by
  obtain ⟨cs, rfl, hsz⟩ := okWide_struct Tryz.underlying28 hv
  obtain ⟨c0, c1, c2, c3, c4, c5, rfl⟩ := array6 (hsz.trans (show Tryz.prog.cellsOf 28 = 6 by kernel_rfl))
  obtain ⟨fuel, hf⟩ := h
  obtain ⟨y0, y1, n, _, _, h0, h1⟩ := trod_struct2 Tryz.underlying28 hf
  have e0 : Tryz.prog.cellsOf 26 = 3 := by kernel_rfl
  have h0' : DataW.trod enc Tryz.prog W base (fun _ => true) true n 26 [c0, c1, c2] = some y0 := by
    simpa [Value.cells, e0] using h0
  have h1' : DataW.trod enc Tryz.prog W base (fun _ => true) true n 26 [c3, c4, c5] = some y1 := by
    simpa [Value.cells, e0] using h1
  obtain ⟨b, A, n1, k, l, e, rfl, rfl, rfl, q1⟩ := open_dy3 h0'
  obtain ⟨b', A', n1', k', l', e', rfl, rfl, rfl, q2⟩ := open_dy3 h1'
  exact ⟨b, A, n1, k, l, e, b', A', n1', k', l', e', rfl, q1, q2⟩

end

end Go.Proofs.YtnnfldkllhdhjaaGreatDoor
