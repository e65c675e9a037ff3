/- Joined: RefExE, RefIvD, RefExF, RefExN, ExH, MillAr, ExK, IvPE, ExPE, Awake14, ExG, ExL, DyOpen, IvOpen (what the law leans on). -/
import Derived.Test.YtnnfldkllhdhjaaGreatDoorBaseIC
import Derived.Test.YtnnfldkllhdhjaaGreatDoorBaseDC
import Derived.Test.YtnnfldkllhdhjaaGreatDoorBaseEC
import Derived.Test.YtnnfldkllhdhjaaGreatDoorBaseMC
import Derived.Test.YtnnfldkllhdhjaaGreatDoorBaseVC
import Derived.Test.YtnnfldkllhdhjaaGreatDoorBaseFC
import Derived.Test.YtnnfldkllhdhjaaGreatDoorBaseWC
import Derived.Test.YtnnfldkllhdhjaaGreatDoorRefGrBC
import Derived.Test.YtnnfldkllhdhjaaGreatDoorBaseXC
import Derived.Test.YtnnfldkllhdhjaaGreatDoorBaseZC
import Derived.Test.YtnnfldkllhdhjaaGreatDoorBaseUC
import Derived.Test.YtnnfldkllhdhjaaGreatDoorJC1
import Derived.Test.YtnnfldkllhdhjaaGreatDoorJC2
import Derived.ChangeOld
import Derived.Deep.Cut
import Derived.Deep.CutRange
import Derived.Deep.DrawnRows
import Derived.Deep.LoopGhost
import Derived.Deep.RegionHeld3
import Derived.Lib.SmallJoins
import Derived.OpenShut
import Derived.ProofKit
namespace Go.Proofs.YtnnfldkllhdhjaaGreatDoor
open Go.RowKit
set_option linter.unusedVariables false
set_option linter.unusedSimpArgs false
set_option maxRecDepth 100000
attribute [local go_sem ↓] Go.wp_at_zero Go.wp_at_succ

theorem three_shift {T : Int} (h : T ≤ 11) : ∃ D : Nat, (3 : Int) * 2 ^ T.toNat = (D : Int) ∧ D ≤ 6144 := by
  have h3 : (2 : Nat) ^ T.toNat ≤ 2 ^ 11 := Nat.pow_le_pow_right (by omega) (by omega)
  exact ⟨3 * 2 ^ T.toNat, by simp, by omega⟩
/-- An interval whose ends, on the grid of j, enclose the exponential of x. -/
def RetEx (w : World) (x : Rat) (j : Nat) (en : Ending) (w' : World) : Prop := ∃ a b, RetI6 w (mkM a (-(j : Int))) (mkE a (-(j : Int))) (mkM b (-(j : Int))) (mkE b (-(j : Int))) en w' ∧ LoE (dq a (-(j : Int))) x ∧ UpE x (dq b (-(j : Int))) ∧ AbP a 60000 ∧ AbP b 60000
theorem RetEx.mk {w w' : World} {x : Rat} {j : Nat} {en : Ending} {M E N F : Int} (h : ∃ a b, mkM a (-(j : Int)) = M ∧ mkE a (-(j : Int)) = E ∧ mkM b (-(j : Int)) = N ∧ mkE b (-(j : Int)) = F ∧ LoE (dq a (-(j : Int))) x ∧ UpE x (dq b (-(j : Int))) ∧ AbP a 60000 ∧ AbP b 60000) (hr : RetI6 w M E N F en w') : RetEx w x j en w' := by
  obtain ⟨a, b, rfl, rfl, rfl, rfl, h⟩ := h
  exact ⟨a, b, hr, h⟩

set_option maxHeartbeats 16000000 in
theorem s14at_any (m e : Int) (k : Nat) (vx : Value) (w : World) (hx : IsD w vx m e) (lm : zl m ≤ 100) (he : -15000 ≤ e ∧ e ≤ 15000) (hr : ∀ h : Nat, h ≤ 14 → mkR m (e - (h : Int)) = 0) (hT : topZ m e ≤ 11) (hc : -4000 ≤ dq m e) (hk : k ≤ 1000) :
    Calls Tryz.prog 16 #[vx, .int .i64 (k : Int)] w (RetEx w (dq m e) (k + 16)) := by
  obtain ⟨A, c, rfl, _, hn⟩ := hx.form
  have L0 := (Lq.mk0 w).n hn
  have g1 := fun W => rof8_any (-4000) W (by omega) (by omega)
  obtain ⟨M0, hM0⟩ : ∃ z, mkM (-4000) 0 = z := ⟨_, rfl⟩
  obtain ⟨E0, hE0⟩ : ∃ z, mkE (-4000) 0 = z := ⟨_, rfl⟩
  have eM0 : M0 = -125 := by rw [← hM0]; decide +kernel
  have eE0 : E0 = 5 := by rw [← hE0]; decide +kernel
  rw [hM0, hE0] at g1
  have zM0 : zl M0 ≤ 1 := len_le1 (x := M0.natAbs) (by omega)
  have g2 := fun x y W h k => rcmp8_any m e M0 E0 x y W h k (by omega) (by omega) (by omega) (by omega)
  have hge : 0 ≤ dcm m e M0 E0 := by
    rw [dcm_ge, eM0, eE0, show dq (-125) 5 = -4000 from by decide +kernel]
    exact hc
  unfold dcm at hge
  obtain ⟨x0, hx0⟩ : ∃ z, cmpI (m * 2 ^ (e - min e E0).toNat) (M0 * 2 ^ (E0 - min e E0).toNat) = z := ⟨_, rfl⟩
  rw [hx0] at g2 hge
  have t0 : decide (x0 < 0) = false := decide_eq_false (by omega)
  have g3 := fun x W h => rtop_any m e x W h (by omega) (by omega)
  obtain ⟨T, hTe⟩ : ∃ z, topZ m e = z := ⟨_, rfl⟩
  rw [hTe] at g3 hT
  have hTl : -2000000 ≤ T := by
    rw [← hTe]; unfold topZ
    split <;> omega
  obtain ⟨h, hh⟩ : ∃ h : Nat, (h : Int) = max 0 T + 3 := ⟨(max 0 T + 3).toNat, by omega⟩
  have hsm : mkM m (e - (h : Int)) = 0 ∨ True := Or.inr trivial
  have sm : m = 0 ∨ (blen m.natAbs : Int) + (e - (h : Int)) ≤ -3 := by
    unfold topZ at hTe
    split at hTe
    · exact Or.inl ‹_›
    · exact Or.inr (by omega)
  have sq := small_dq sm
  have HS := Lib.hid sq
  have HM := Lib.hid sm
  have HX := Lib.hid hh
  have h3 : 3 ≤ h ∧ h ≤ 14 := by omega
  have hr1 := hr h h3.2
  have hdq := dq_mk hr1
  have zM : zl (mkM m (e - (h : Int))) ≤ 100 := by
    unfold mkM
    rw [if_pos hr1]
    exact Nat.le_trans (zl_odd m) lm
  have zE := mkE_le (m := m) (e := e - (h : Int)) (K := 15014) (by omega) (by omega)
  have k1 := fun x W hW => rshift8_any m e (-(h : Int)) x W hW (by omega) (by omega) (by omega)
  rw [show e + -(h : Int) = e - (h : Int) from rfl] at k1
  obtain ⟨M, hM⟩ : ∃ z, mkM m (e - (h : Int)) = z := ⟨_, rfl⟩
  obtain ⟨E, hE⟩ : ∃ z, mkE m (e - (h : Int)) = z := ⟨_, rfl⟩
  obtain ⟨R, hR⟩ : ∃ z, mkR m (e - (h : Int)) = z := ⟨_, rfl⟩
  rw [hM, hE, hR] at k1
  rw [hM] at zM
  rw [hE] at zE
  rw [hM, hE] at hdq
  have k2 := fun (v : Nat) x W (hW : IsD W x M E) (hv : v ≤ 20000) => s13at_any M E v x W hW (by omega) (by omega) hv
  obtain ⟨y, hy⟩ : ∃ q, dq m (e - (h : Int)) = q := ⟨_, rfl⟩
  rw [hdq, hy] at k2
  have HT := Lib.hid hTl
  have HT2 := Lib.hid hT
  have G1 := Lib.hid g1
  have G2 := Lib.hid g2
  have G3 := Lib.hid g3
  have K1 := Lib.hid k1
  have K2 := Lib.hid k2
  have HY := Lib.hid hy
  rw [hy] at HS
  clear g1 g2 g3 k1 k2 zM zE hM hE hR hdq hr1 hr hy sq sm hsm hM0 hE0 eM0 eE0 zM0 hge hx0 hx hn hc
  go_enter Tryz.func16, Tryz.ntmps16
  go_wp2_with fail
  have L := ((L0.varD (w.heap.size) (by simp) (ng m) A (zl m) c e).varI (w.heap.size + 1) (by simp) false none 0 0 0 false none 0 0 0)
  replace L := L.drew
  have c10 := L.tl.b0.c30
  have c11 := L.tl.b0.c31
  have c12 := L.tl.b0.c32
  (try go_wp2_with fail)
  go_region_held3 (fun w' => w'.cell? ⟨w.heap.size, 0, none⟩ = some (.bool (ng m)) ∧ w'.cell? ⟨w.heap.size, 1, none⟩ = some (.slice A (zl m) c) ∧ w'.cell? ⟨w.heap.size, 2, none⟩ = some (.int .i64 e)) (first | (with_reducible exact ⟨L.tl.b0.c30, L.tl.b0.c31, L.tl.b0.c32⟩) | exact ⟨L.tl.b0.c30, L.tl.b0.c31, L.tl.b0.c32⟩) (first | (go_at_call 18; (with_reducible refine (G1.out _ ).mono ?_); rintro e wh ⟨vh, rfl, id, be⟩; obtain ⟨A0, c0, rfl, _, in9⟩ := id.form; replace L := (L.step be).n in9; clear be id in9) | (go_at_call 30; (with_reducible refine (G2.out _ _ _ ?_ ?_ ).mono ?_); (· (refine isD_n (L.getN ?_); (repeat (first | (with_reducible exact List.mem_cons_self) | apply List.mem_cons_of_mem)))); (· (refine isD_n (L.getN ?_); (repeat (first | (with_reducible exact List.mem_cons_self) | apply List.mem_cons_of_mem)))); rintro e wh ⟨rfl, be⟩; replace L := L.step be; clear be))
  clear c10 c11 c12
  generalize hz : ng m = z at *
  have HZ : Hid (∀ W s, IsN W s m.natAbs → IsD W (.agg #[.bool z, s, .int .i64 e]) m e) := Lib.hid (fun W s hs => by rw [← hz]; exact isD_n hs)
  clear hz
  have c10 := L.tl.b0.c30
  have c11 := L.tl.b0.c31
  have c12 := L.tl.b0.c32
  go_wp2_with fail
  refine (G3.out _ _ (HZ.out _ (.slice A (zl m) c) (L.getN (by simp)))).mono ?_
  rintro e w1 ⟨rfl, be⟩
  clear c10 c11 c12
  replace L := L.step be
  clear be
  clear t0
  go_upto_region 7 with fail
  rw [← HX.out]
  obtain ⟨V0, hV0⟩ : ∃ V : Nat, (k : Int) + 40 + 2 * (h : Int) = (V : Int) := ⟨k + 40 + 2 * h, by omega⟩
  rw [hV0]
  have hV1 : k + 46 ≤ V0 ∧ V0 ≤ 1068 := by omega
  clear hV0 hh
  have LL := Lib.hid L
  have b1 := L.tl.b0
  have i1 := L.getN (v := .slice A (zl m) c) (x := m.natAbs) (by simp)
  have L := ((Lq.mk0 w1).n i1).b b1
  clear b1 i1
  go_cut [53] from 45 to 53 (fun s53 wx => ∃ β, s53 = .bool β ∧ (β = true → 0 < T) ∧ Below w1.heap.size w1 wx)
  case first =>
    have c00 := L.b0.c30
    have c01 := L.b0.c31
    have c02 := L.b0.c32
    cases z
    case true =>
      go_wp2_with fail
      go_meet
      exact ⟨false, rfl, (fun h => by cases h), L.below⟩
    go_wp2_with fail
    refine (G3.out _ _ (HZ.out _ (.slice A (zl m) c) (L.getN (by simp)))).mono ?_
    rintro e w2 ⟨rfl, be⟩
    clear c00 c01 c02
    replace L := L.step be
    clear be
    go_wp2_with fail
    go_meet
    exact ⟨decide (0 < T), rfl, of_decide_eq_true, L.below⟩
  case rest =>
    obtain ⟨β, rfl, hβ, bw⟩ := hcut
    have L := LL.out.step bw
    clear LL bw
    have HB := Lib.hid hβ
    clear hβ
    generalize wc = wd at *
    go_upto_if 53 with fail
    have LL := Lib.hid L
    have b1 := L.tl.b0
    have i1 := L.getN (v := .slice A (zl m) c) (x := m.natAbs) (by simp)
    have L := ((Lq.mk0 wd).n i1).b b1
    clear b1 i1
    go_cut [10] from 54 to 59 (fun s10 wx => ∃ V : Nat, s10 = .int .i64 (V : Int) ∧ (k + 46 ≤ V ∧ V ≤ 8000) ∧ Below wd.heap.size wd wx)
    case first =>
      cases β
      · go_wp2_with fail
        go_meet
        exact ⟨V0, rfl, by omega, L.below⟩
      have hT0 := HB.out rfl
      have c00 := L.b0.c30
      have c01 := L.b0.c31
      have c02 := L.b0.c32
      go_wp2_with fail
      refine (G3.out _ _ (HZ.out _ (.slice A (zl m) c) (L.getN (by simp)))).mono ?_
      rintro e w3 ⟨rfl, be⟩
      clear c00 c01 c02
      replace L := L.step be
      clear be
      obtain ⟨D, hD, hD2⟩ := three_shift hT
      go_wp2_with fail
      go_meet
      exact ⟨V0 + D, congrArg (Value.int .i64) (by omega), by omega, L.below⟩
    case rest =>
      obtain ⟨v, rfl, hv, bw⟩ := hcut
      have L := LL.out.step bw
      clear LL bw HB
      generalize wc = wd9 at *
      have hC := Lib.hid (SpC.at y v)
      have hc1 := small_cut HS.out (v := v) (by omega)
      have hc2 := (small_cut (q := -y) (v := v) (by have := HS.out; constructor <;> grind) (by omega)).neg
      have k2 := fun x W hW => K2.out v x W hW (by omega)
      obtain ⟨C, hCe⟩ : ∃ z, cutQ y (v : Int) = z := ⟨_, rfl⟩
      obtain ⟨D, hDe⟩ : ∃ z, -(cutQ (-y) (v : Int)) = z := ⟨_, rfl⟩
      rw [hCe, hDe] at k2 hC
      rw [hCe] at hc1
      rw [hDe] at hc2
      have K3 := Lib.hid k2
      have HC1 := Lib.hid hc1
      have HC2 := Lib.hid hc2
      have k4 := fun W => s13of_any 1 v W (by omega) (by omega) (by omega)
      rw [Int.one_mul] at k4
      have q0 := ExS.first v y
      obtain ⟨P, hP⟩ : ∃ z, (2 : Int) ^ v = z := ⟨_, rfl⟩
      rw [hP] at k4 q0
      have K4 := Lib.hid k4
      have HQ := Lib.hid q0
      clear k2 k4 q0 hP hc1 hc2 hCe hDe K2 G1 G2
      have c10 := L.tl.b0.c30
      have c11 := L.tl.b0.c31
      have c12 := L.tl.b0.c32
      go_wp2_with fail
      refine (K1.out _ _ (HZ.out _ (.slice A (zl m) c) (L.getN (by simp)))).mono ?_
      rintro e w4 ⟨vv, rfl, id, be⟩
      clear c10 c11 c12
      obtain ⟨A1, c1, rfl, _, in9⟩ := id.form
      replace L := (L.step be).n in9
      clear be id in9
      have hl0 := L.b0.lt
      replace L := L.varD w4.heap.size rfl (ng M) A1 (zl M) c1 E
      have c00 := L.b0.c30
      have c01 := L.b0.c31
      have c02 := L.b0.c32
      go_wp2_with fail
      clear c00 c01 c02
      obtain ⟨g11, hg11⟩ : ∃ g9, w4.heap.size = g9 := ⟨_, rfl⟩
      rw [hg11] at L hl0 ⊢
      clear hg11
      refine (K3.out _ _ (isD_n (m := M) (e := E) (s := .slice A1 (zl M) c1) (L.getN (by simp)))).mono ?_
      rintro e w5 ⟨vv, rfl, iq, be⟩
      obtain ⟨A2, c2, B2, d2, rfl, ia, ib⟩ := iq.form
      replace L := ((L.step be).n ib).n ia
      clear be iq ia ib
      replace L := L.varS w5.heap.size rfl (ng C) A2 (zl C) c2 (ng D) B2 (zl D) d2
      have c00 := L.b0.c40
      have c01 := L.b0.c41
      have c02 := L.b0.c42
      have c03 := L.b0.c43
      go_wp2_with fail
      clear c00 c01 c02 c03
      obtain ⟨g13, hg13⟩ : ∃ g9, w5.heap.size = g9 := ⟨_, rfl⟩
      rw [hg13] at L ⊢
      clear hg13
      obtain ⟨AC, hAC⟩ : ∃ x, A2 = x := ⟨_, rfl⟩
      obtain ⟨cC, hcC⟩ : ∃ x, c2 = x := ⟨_, rfl⟩
      obtain ⟨AD, hAD⟩ : ∃ x, B2 = x := ⟨_, rfl⟩
      obtain ⟨cD, hcD⟩ : ∃ x, d2 = x := ⟨_, rfl⟩
      rw [hAC, hcC, hAD, hcD] at L ⊢
      obtain ⟨V, hV⟩ : ∃ V, w5.alloc (.cells #[.bool (ng C), .slice AC (zl C) cC, .bool (ng D), .slice AD (zl D) cD] 71) = V := ⟨_, rfl⟩
      rw [hV] at L ⊢
      clear hV hAC hcC hAD hcD
      have hgV := L.b0.lt
      have b1 := L.b0
      have i1 := L.getN (v := .slice AC (zl C) cC) (x := C.natAbs) (by simp)
      have i2 := L.getN (v := .slice AD (zl D) cD) (x := D.natAbs) (by simp)
      have LL := Lib.hid L
      clear L
      have L := (((Lq.mk0 V).n i2).n i1).b b1
      clear b1 i1 i2
      refine (K4.out _).mono ?_
      rintro e w6 ⟨vv, rfl, iq, be⟩
      obtain ⟨A3, c3, B3, d3, rfl, ia, ib⟩ := iq.form
      replace L := ((L.step be).n ib).n ia
      clear be iq ia ib
      go_wp2_with fail
      refine (K4.out _).mono ?_
      rintro e w7 ⟨vv, rfl, iq, be⟩
      obtain ⟨A4, c4, B4, d4, rfl, ia, ib⟩ := iq.form
      replace L := ((L.step be).n ib).n ia
      clear be iq ia ib
      have hVt : V.heap.size ≤ w7.heap.size := L.below.size
      replace L := (L.varS w7.heap.size rfl (ng P) A3 (zl P) c3 (ng P) B3 (zl P) d3).varS (w7.heap.size + 1) (by simp) (ng P) A4 (zl P) c4 (ng P) B4 (zl P) d4
      have c00 := L.b0.c40
      have c01 := L.b0.c41
      have c02 := L.b0.c42
      have c03 := L.b0.c43
      have c10 := L.tl.b0.c40
      have c11 := L.tl.b0.c41
      have c12 := L.tl.b0.c42
      have c13 := L.tl.b0.c43
      go_wp2_with fail
      clear c00 c01 c02 c03 c10 c11 c12 c13
      obtain ⟨gt, hgt⟩ : ∃ g9, w7.heap.size = g9 := ⟨_, rfl⟩
      rw [hgt] at L hVt ⊢
      clear hgt
      replace L := L.swap
      clear K4
      go_loopw [16] (fun i wr => ∃ (f t k1 : Nat) (a b p q : Int) (A1 B1 A2 B2 : Option Addr) (c1 d1 c2 d2 : Nat), i = .int .i64 (k1 : Int) ∧ Lq V wr [(.slice A1 (zl a) c1, a.natAbs), (.slice B1 (zl b) d1, b.natAbs), (.slice A2 (zl p) c2, p.natAbs), (.slice B2 (zl q) d2, q.natAbs), (.slice AC (zl C) cC, C.natAbs), (.slice AD (zl D) cD, D.natAbs)] [] [] [(gt, 71, #[.bool (ng a), .slice A1 (zl a) c1, .bool (ng b), .slice B1 (zl b) d1]), (gt + 1, 71, #[.bool (ng p), .slice A2 (zl p) c2, .bool (ng q), .slice B2 (zl q) d2]), (g13, 71, #[.bool (ng C), .slice AC (zl C) cC, .bool (ng D), .slice AD (zl D) cD])] ∧ Hid (k1 = t + 1 ∧ ExS v f t y a b p q)) (fun i _ => v + 4 - (intOf i).toNat)
      case atStart => exact ⟨v, 0, 1, P, P, P, P, A3, B3, A4, B4, c3, d3, c4, d4, by go_num, L.subx (by simp) (by simp), Lib.hid ⟨rfl, HQ.out⟩⟩
      case round =>
        clear L HQ
        obtain ⟨f, t, k1, a, b, p, q, A1, B1, A2, B2, c1, d1, c2, d2, rfl, L, HR⟩ := hrel
        have hk1 := HR.out.1
        have htf := HR.out.2.tf
        have sa := HR.out.2.aa.zl
        have sb := HR.out.2.bb.zl
        have h2f := Nat.pow_pos (n := f) (show 0 < 2 by omega)
        have sp : AbP p (v + 1) := by have := HR.out.2.pp; unfold AbP; omega
        have sq : AbP q (v + 1) := by have := HR.out.2.qq; unfold AbP; omega
        clear h2f
        have sp2 := sp.zl
        have sq2 := sq.zl
        have hab := HR.out.2.tm.le
        have tn0 := fun x W h => s13tiny_any a b x W h (by omega) (by omega)
        have hl1 := L.b0.lt
        have hl2 := L.tl.b0.lt
        cases ht : tnB a b
        · rw [ht] at tn0
          have TN := Lib.hid tn0
          obtain ⟨a', ha'⟩ : ∃ z, mn4 (a * C) (a * D) (b * C) (b * D) / 2 ^ v = z := ⟨_, rfl⟩
          obtain ⟨b', hb'⟩ : ∃ z, cdv (mx4 (a * C) (a * D) (b * C) (b * D)) (2 ^ v) = z := ⟨_, rfl⟩
          obtain ⟨g, rfl, nA, nB, n1⟩ := HR.out.2.step hC.out HC1.out HC2.out ht ha' hb'
          have hab' : a' ≤ b' := by
            have := (HR.out.2.tm.mul hC.out).le
            rwa [ha', hb'] at this
          have zC := HC1.out.zl
          have zD := HC2.out.zl
          have zA := nA.zl
          have zB := nB.zl
          have zA2 := n1.aa.zl
          have zB2 := n1.bb.zl
          rw [← hk1] at n1 zA2 zB2
          have o1 := fun x y W h j => s13mul_any a b C D v x y W h j (by omega) (by omega) (by omega) (by omega) (by omega)
          rw [ha', hb'] at o1
          have o2 := fun x W h => s13over_any a' b' (k1 : Int) x W h (by omega) (by omega) hab' (by omega) (by omega)
          have o5 := fun x y W h j => s13add_any p q (a' / (k1 : Int)) (cdv b' (k1 : Int)) x y W h j (by omega) (by omega) (by omega) (by omega)
          have hkv : k1 ≤ v + 2 := by omega
          have w3 : IntKind.i64.wrap ((k1 : Int) + 1) = (k1 : Int) + 1 := by rw [IntKind.wrap_i64]; omega
          obtain ⟨a3, ha3⟩ : ∃ z, a' / (k1 : Int) = z := ⟨_, rfl⟩
          rw [ha3] at o2 o5 n1
          obtain ⟨b3, hb3⟩ : ∃ z, cdv b' (k1 : Int) = z := ⟨_, rfl⟩
          rw [hb3] at o2 o5 n1
          obtain ⟨s4, hs4⟩ : ∃ z, p + a3 = z := ⟨_, rfl⟩
          rw [hs4] at o5 n1
          obtain ⟨u4, hu4⟩ : ∃ z, q + b3 = z := ⟨_, rfl⟩
          rw [hu4] at o5 n1
          have O1 := Lib.hid o1
          have O2 := Lib.hid o2
          have O5 := Lib.hid o5
          have HR2 := Lib.hid n1
          clear o1 o2 o5 tn0 ha3 hb3 hs4 hu4 ha' hb' sa sb sp sq sp2 sq2 hab hab' n1 ht zC zD zA zB zA2 zB2 nA nB HR hk1 htf
          have cel00 := L.b0.c40
          have cel01 := L.b0.c41
          have cel02 := L.b0.c42
          have cel03 := L.b0.c43
          go_wp2_with fail
          refine (TN.out _ _ (isS_n (a := a) (b := b) (s := .slice A1 (zl a) c1) (t := .slice B1 (zl b) d1) (L.getN (by simp)) (L.getN (by simp)))).mono ?_
          rintro e w11 ⟨rfl, be⟩
          clear cel00 cel01 cel02 cel03
          replace L := L.step be
          clear be
          have cel00 := L.b0.c40
          have cel01 := L.b0.c41
          have cel02 := L.b0.c42
          have cel03 := L.b0.c43
          have cel20 := L.tl.tl.b0.c40
          have cel21 := L.tl.tl.b0.c41
          have cel22 := L.tl.tl.b0.c42
          have cel23 := L.tl.tl.b0.c43
          go_wp2_with fail
          refine (O1.out _ _ _ (isS_n (a := a) (b := b) (s := .slice A1 (zl a) c1) (t := .slice B1 (zl b) d1) (L.getN (by simp)) (L.getN (by simp))) (isS_n (a := C) (b := D) (s := .slice AC (zl C) cC) (t := .slice AD (zl D) cD) (L.getN (by simp)) (L.getN (by simp)))).mono ?_
          rintro e w12 ⟨vv, rfl, iq, be⟩
          clear cel00 cel01 cel02 cel03 cel20 cel21 cel22 cel23
          obtain ⟨A5, c5, B5, d5, rfl, ia, ib⟩ := iq.form
          replace L := ((L.step be).n ib).n ia
          clear be iq ia ib
          go_wp2_with fail
          refine (O2.out _ _ (isS_n (a := a') (b := b') (s := .slice A5 (zl a') c5) (t := .slice B5 (zl b') d5) (L.getN (by simp)) (L.getN (by simp)))).mono ?_
          rintro e w13 ⟨vv, rfl, iq, be⟩
          obtain ⟨A3, c3, B3, d3, rfl, ia, ib⟩ := iq.form
          replace L := ((L.step be).n ib).n ia
          clear be iq ia ib
          have hVs : V.heap.size ≤ gt + 1 := by omega
          have hgt : g13 ≠ gt := by omega
          have hgt1 : g13 ≠ gt + 1 := by omega
          have cel00 := L.b0.c40
          have f00 := L.b0.fr 0
          have cel01 := L.b0.c41
          have f01 := L.b0.fr 1
          have cel02 := L.b0.c42
          have f02 := L.b0.fr 2
          have cel03 := L.b0.c43
          have f03 := L.b0.fr 3
          have P := L.putS (by omega) (by first | (simp; done) | (simp; omega)) (ng a3) A3 (zl a3) c3 (ng b3) B3 (zl b3) d3
          have p00 := P.b0.c40
          have p01 := P.b0.c41
          have p02 := P.b0.c42
          have p03 := P.b0.c43
          have p10 := P.tl.b0.c40
          have p11 := P.tl.b0.c41
          have p12 := P.tl.b0.c42
          have p13 := P.tl.b0.c43
          unfold put4 at p00 p01 p02 p03 p10 p11 p12 p13 P
          go_wp2_with fail
          replace L := P
          clear P p00 p01 p02 p03 p10 p11 p12 p13
          clear cel00 f00 cel01 f01 cel02 f02 cel03 f03
          refine (O5.out _ _ _ (isS_n (a := p) (b := q) (s := .slice A2 (zl p) c2) (t := .slice B2 (zl q) d2) (L.getN (by simp)) (L.getN (by simp))) (isS_n (a := a3) (b := b3) (s := .slice A3 (zl a3) c3) (t := .slice B3 (zl b3) d3) (L.getN (by simp)) (L.getN (by simp)))).mono ?_
          rintro e w14 ⟨vv, rfl, iq, be⟩
          obtain ⟨A6, c6, B6, d6, rfl, ia, ib⟩ := iq.form
          replace L := ((L.step be).n ib).n ia
          clear be iq ia ib
          have cel10 := L.tl.b0.c40
          have f10 := L.tl.b0.fr 0
          have cel11 := L.tl.b0.c41
          have f11 := L.tl.b0.fr 1
          have cel12 := L.tl.b0.c42
          have f12 := L.tl.b0.fr 2
          have cel13 := L.tl.b0.c43
          have f13 := L.tl.b0.fr 3
          replace L := L.swap.putS (by omega) (by first | (simp; done) | (simp; omega)) (ng s4) A6 (zl s4) c6 (ng u4) B6 (zl u4) d6
          unfold put4 at L
          go_wp2_with fail
          go_roundw
          case rel => exact ⟨g, k1, k1 + 1, a3, b3, s4, u4, A3, B3, A6, B6, c3, d3, c6, d6, by go_num, L.subx (by simp) (by simp), Lib.hid ⟨rfl, HR2.out⟩⟩
          case measure => simp [intOf]; omega
        · rw [ht] at tn0
          have TN := Lib.hid tn0
          have rs := HR.out.2.last ht (small_rab HS.out)
          have es := HR.out.2.ends (show 1 ≤ v by omega)
          have o1 := fun x W h => s13wide_any p q 3 x W h (by omega) (by omega) (by omega) (by omega)
          obtain ⟨p3, hp3⟩ : ∃ z, p - 3 = z := ⟨_, rfl⟩
          obtain ⟨q3, hq3⟩ : ∃ z, q + 3 = z := ⟨_, rfl⟩
          rw [hp3, hq3] at o1 rs es
          have O1 := Lib.hid o1
          have HD := Lib.hid (ExD.first rs es.1 es.2)
          clear o1 rs es hp3 hq3 tn0 HR sa sb sp sq sp2 sq2 hab ht hk1 htf
          have cel00 := L.b0.c40
          have cel01 := L.b0.c41
          have cel02 := L.b0.c42
          have cel03 := L.b0.c43
          go_wp2_with fail
          refine (TN.out _ _ (isS_n (a := a) (b := b) (s := .slice A1 (zl a) c1) (t := .slice B1 (zl b) d1) (L.getN (by simp)) (L.getN (by simp)))).mono ?_
          rintro e w11 ⟨rfl, be⟩
          clear cel00 cel01 cel02 cel03
          replace L := L.step be
          clear be
          have cel10 := L.tl.b0.c40
          have cel11 := L.tl.b0.c41
          have cel12 := L.tl.b0.c42
          have cel13 := L.tl.b0.c43
          go_wp2_with fail
          refine (O1.out _ _ (isS_n (a := p) (b := q) (s := .slice A2 (zl p) c2) (t := .slice B2 (zl q) d2) (L.getN (by simp)) (L.getN (by simp)))).mono ?_
          rintro e w12 ⟨vv, rfl, iq, be⟩
          clear cel10 cel11 cel12 cel13
          obtain ⟨A9, c9, B9, d9, rfl, ia, ib⟩ := iq.form
          replace L := ((L.step be).n ib).n ia
          clear be iq ia ib
          have hVs : V.heap.size ≤ gt + 1 := by omega
          have hgt : g13 ≠ gt := by omega
          have hgt1 : g13 ≠ gt + 1 := by omega
          have cel10 := L.tl.b0.c40
          have f10 := L.tl.b0.fr 0
          have cel11 := L.tl.b0.c41
          have f11 := L.tl.b0.fr 1
          have cel12 := L.tl.b0.c42
          have f12 := L.tl.b0.fr 2
          have cel13 := L.tl.b0.c43
          have f13 := L.tl.b0.fr 3
          replace L := L.swap.putS (by omega) (by first | (simp; done) | (simp; omega)) (ng p3) A9 (zl p3) c9 (ng q3) B9 (zl q3) d9
          unfold put4 at L
          go_wp2_with fail
          have hh14 : h ≤ 14 := h3.2
          have hg1V : V.heap.size ≤ gt + 1 := by omega
          clear hl1 hl2 O1 TN
          go_loopw [91] (fun i wr => ∃ (j : Nat) (a b : Int) (A1 B1 : Option Addr) (c1 d1 : Nat), i = .int .i64 (j : Int) ∧ j ≤ h ∧ Lq V wr [(.slice A1 (zl a) c1, a.natAbs), (.slice B1 (zl b) d1, b.natAbs)] [] [] [(gt + 1, 71, #[.bool (ng a), .slice A1 (zl a) c1, .bool (ng b), .slice B1 (zl b) d1])] ∧ Hid (ExD v j y a b)) (fun i _ => h - (intOf i).toNat)
          case atStart => exact ⟨0, p3, q3, A9, B9, c9, d9, by go_num, by omega, L.subx (by simp) (by simp), HD⟩
          case round =>
            clear L HD
            obtain ⟨j, a, b, A1, B1, c1, d1, rfl, hj, L, HR⟩ := hrel
            have hsb := sqbits_le (v := v) (i := j) (by omega) (by omega)
            have sa := (HR.out.aa.up hsb).zl
            have sb := (HR.out.bb.up hsb).zl
            have hl1 := L.b0.lt
            rcases Nat.lt_or_ge j h with hj2 | hjg
            · obtain ⟨a', ha'⟩ : ∃ z, mn4 (a * a) (a * b) (b * a) (b * b) / 2 ^ v = z := ⟨_, rfl⟩
              obtain ⟨b', hb'⟩ : ∃ z, cdv (mx4 (a * a) (a * b) (b * a) (b * b)) (2 ^ v) = z := ⟨_, rfl⟩
              have n1 := HR.out.step ha' hb'
              have o1 := fun x y W h j => s13mul_any a b a b v x y W h j (by omega) (by omega) (by omega) (by omega) (by omega)
              rw [ha', hb'] at o1
              have O1 := Lib.hid o1
              have HR2 := Lib.hid n1
              have hjl : (j : Int) < (h : Int) := by omega
              have w4 : IntKind.i64.wrap ((j : Int) + 1) = (j : Int) + 1 := by rw [IntKind.wrap_i64]; omega
              clear o1 n1 ha' hb' sa sb hsb HR
              have cel00 := L.b0.c40
              have cel01 := L.b0.c41
              have cel02 := L.b0.c42
              have cel03 := L.b0.c43
              go_wp2_with fail
              refine (O1.out _ _ _ (isS_n (a := a) (b := b) (s := .slice A1 (zl a) c1) (t := .slice B1 (zl b) d1) (L.getN (by simp)) (L.getN (by simp))) (isS_n (a := a) (b := b) (s := .slice A1 (zl a) c1) (t := .slice B1 (zl b) d1) (L.getN (by simp)) (L.getN (by simp)))).mono ?_
              rintro e w51 ⟨vv, rfl, iq, be⟩
              clear cel00 cel01 cel02 cel03
              obtain ⟨A9, c9, B9, d9, rfl, ia, ib⟩ := iq.form
              replace L := ((L.step be).n ib).n ia
              clear be iq ia ib
              have cel00 := L.b0.c40
              have f00 := L.b0.fr 0
              have cel01 := L.b0.c41
              have f01 := L.b0.fr 1
              have cel02 := L.b0.c42
              have f02 := L.b0.fr 2
              have cel03 := L.b0.c43
              have f03 := L.b0.fr 3
              replace L := L.putS (by omega) (by first | (simp; done) | (simp; omega)) (ng a') A9 (zl a') c9 (ng b') B9 (zl b') d9
              unfold put4 at L
              go_wp2_with fail
              go_roundw
              case rel => exact ⟨j + 1, a', b', A9, B9, c9, d9, by go_num, by omega, L.subx (by simp) (by simp), HR2⟩
              case measure => simp [intOf]; omega
            · have hjh : j = h := by omega
              have rs := HR.out.rs
              rw [show (((2 : Nat) ^ j : Nat) : Rat) * y = dq m e from by rw [hjh, ← HY.out]; exact dq_halves m e h] at rs
              obtain ⟨jj, hjj⟩ : ∃ jj : Nat, v = k + 16 + jj := ⟨v - (k + 16), by omega⟩
              have ro := rs.out hjj
              have hp := pow2_pos jj
              have b1 := (HR.out.aa.up hsb).fl hp
              have b2 := (HR.out.bb.up hsb).cd hp
              have o1 := fun x W hW => s13out_any a b v (k + 16) jj x W hW (by omega) (by omega) (by omega) hjj (by omega)
              have HF0 := Lib.hid (And.intro ro (And.intro b1 b2))
              have w5 : IntKind.i64.wrap ((k : Int) + 16) = ((k + 16 : Nat) : Int) := by rw [IntKind.wrap_i64]; omega
              obtain ⟨K16, hK⟩ : ∃ K, k + 16 = K := ⟨_, rfl⟩
              rw [hK] at o1 HF0 w5
              obtain ⟨M9, hM9⟩ : ∃ z, mkM (a / 2 ^ jj) (-(K16 : Int)) = z := ⟨_, rfl⟩
              obtain ⟨E9, hE9⟩ : ∃ z, mkE (a / 2 ^ jj) (-(K16 : Int)) = z := ⟨_, rfl⟩
              obtain ⟨N9, hN9⟩ : ∃ z, mkM (cdv b (2 ^ jj)) (-(K16 : Int)) = z := ⟨_, rfl⟩
              obtain ⟨F9, hF9⟩ : ∃ z, mkE (cdv b (2 ^ jj)) (-(K16 : Int)) = z := ⟨_, rfl⟩
              rw [hM9, hE9, hN9, hF9] at o1
              have HF := Lib.hid (show ∃ a b, mkM a (-((k + 16 : Nat) : Int)) = M9 ∧ mkE a (-((k + 16 : Nat) : Int)) = E9 ∧ mkM b (-((k + 16 : Nat) : Int)) = N9 ∧ mkE b (-((k + 16 : Nat) : Int)) = F9 ∧ LoE (dq a (-((k + 16 : Nat) : Int))) (dq m e) ∧ UpE (dq m e) (dq b (-((k + 16 : Nat) : Int))) ∧ AbP a 60000 ∧ AbP b 60000 from by
                rw [hK]
                exact ⟨_, _, hM9, hE9, hN9, hF9, HF0.out.1.1, HF0.out.1.2, HF0.out.2.1, HF0.out.2.2⟩)
              have O1 := Lib.hid o1
              have hjl : ¬ (j : Int) < (h : Int) := by omega
              have hq4 := LL.out.tl.tl.b0.lt
              have hvs := L.b0
              have ia := L.getN (v := .slice A1 (zl a) c1) (x := a.natAbs) (by simp)
              have ib := L.getN (v := .slice B1 (zl b) d1) (x := b.natAbs) (by simp)
              have L9 := (((LL.out.step L.below).n ib).n ia).b hvs
              have L := L9.subx (ns' := [(.slice A1 (zl a) c1, a.natAbs), (.slice B1 (zl b) d1, b.natAbs)]) (bs' := [(gt + 1, 71, #[.bool (ng a), .slice A1 (zl a) c1, .bool (ng b), .slice B1 (zl b) d1]), (w.heap.size + 1, 28, #[.bool false, .slice none 0 0, .int .i64 0, .bool false, .slice none 0 0, .int .i64 0])]) (by simp) (by simp)
              have n9 : w.heap.size + 1 ≠ gt + 1 := by omega
              clear hjj ro rs hp b1 b2 o1 HF0 hK hM9 hE9 hN9 hF9 hvs ia ib L9 LL hjh HR sa sb hsb hq4
              have cel00 := L.b0.c40
              have cel01 := L.b0.c41
              have cel02 := L.b0.c42
              have cel03 := L.b0.c43
              go_wp2_with fail
              refine (O1.out _ _ (isS_n (a := a) (b := b) (s := .slice A1 (zl a) c1) (t := .slice B1 (zl b) d1) (L.getN (by simp)) (L.getN (by simp)))).mono ?_
              rintro e w51 ⟨vv, rfl, ii, be⟩
              clear cel00 cel01 cel02 cel03
              obtain ⟨A6, c6, B6, d6, rfl, ia, ib⟩ := ii.form
              replace L := (((L.step be).n ib).n ia).swap
              clear be ii ia ib
              have cel00 := L.b0.c60
              have f00 := L.b0.fr 0
              have cel01 := L.b0.c61
              have f01 := L.b0.fr 1
              have cel02 := L.b0.c62
              have f02 := L.b0.fr 2
              have cel03 := L.b0.c63
              have f03 := L.b0.fr 3
              have cel04 := L.b0.c64
              have f04 := L.b0.fr 4
              have cel05 := L.b0.c65
              have f05 := L.b0.fr 5
              go_wp2_with fail
              have LP := L.putI (by omega) (by first | (simp; done) | (simp; omega)) (ng M9) A6 (zl M9) c6 E9 (ng N9) B6 (zl N9) d6 F9
              have k0 := LP.b0.c60
              have k1 := LP.b0.c61
              have k2 := LP.b0.c62
              have k3 := LP.b0.c63
              have k4 := LP.b0.c64
              have k5 := LP.b0.c65
              unfold put6 at k0 k1 k2 k3 k4 k5
              exact bodyPost_ret (v := .agg #[.bool (ng M9), .slice A6 (zl M9) c6, .int .i64 E9, .bool (ng N9), .slice B6 (zl N9) d6, .int .i64 F9]) (by simp [results, Tryz.results16, go_sem, k0, k1, k2, k3, k4, k5]) rfl (RetEx.mk HF.out ⟨_, rfl, isI_n (LP.getN (by simp)) (LP.getN (by simp)), LP.below⟩)

set_option maxHeartbeats 8000000 in
theorem r10out_yes (m e n f p : Int) (vx : Value) (w : World) (hx : IsI w vx m e n f) (lm : zl m ≤ 1000) (ln : zl n ≤ 1000) (he : -20000 ≤ e ∧ e ≤ 20000) (hf : -20000 ≤ f ∧ f ≤ 20000) (hp1 : -9223372036854775808 ≤ p) (hp2 : p ≤ 9223372036854775807) (hp : permB p = true) (r1 : mkR (cutQ (dq m e) p) (-p) = 0) (r2 : mkR (-(cutQ (-(dq n f)) p)) (-p) = 0) :
    Calls Tryz.prog 64 #[vx, .int .i64 p] w (RetIE w (mkM (cutQ (dq m e) p) (-p)) (mkE (cutQ (dq m e) p) (-p)) (mkM (-(cutQ (-(dq n f)) p)) (-p)) (mkE (-(cutQ (-(dq n f)) p)) (-p)) 0) := by
  obtain ⟨A, c, B, d, rfl, hn1, hn2⟩ := hx.form
  have L0 := ((Lq.mk0 w).n hn2).n hn1
  have h1 := fun v W h => rfloor9_any m e p v W h (by omega) (by omega) hp1 hp2
  have h2 := fun v W h => rceil9_any n f p v W h (by omega) (by omega) hp1 hp2
  rw [(g_yes hp (cutQ (dq m e) p)).1, (g_yes hp (cutQ (dq m e) p)).2.1, (g_yes hp (cutQ (dq m e) p)).2.2] at h1
  rw [(g_yes hp (-(cutQ (-(dq n f)) p))).1, (g_yes hp (-(cutQ (-(dq n f)) p))).2.1, (g_yes hp (-(cutQ (-(dq n f)) p))).2.2] at h2
  rw [r1] at h1
  rw [r2] at h2
  generalize mkM (cutQ (dq m e) p) (-p) = M at *
  generalize mkE (cutQ (dq m e) p) (-p) = E at *
  generalize mkM (-(cutQ (-(dq n f)) p)) (-p) = N at *
  generalize mkE (-(cutQ (-(dq n f)) p)) (-p) = G at *
  have H1 := Lib.hid h1
  have H2 := Lib.hid h2
  clear h1 h2 hx hn1 hn2 lm ln he hf hp1 hp2 hp r1 r2
  go_enter Tryz.func64, Tryz.ntmps64
  go_wp2_with fail
  have L := ((L0.varI (w.heap.size) (by simp) (ng m) A (zl m) c e (ng n) B (zl n) d f).varI (w.heap.size + 1) (by simp) false none 0 0 0 false none 0 0 0)
  have c00 := L.b0.c60
  have f00 := L.b0.fr 0
  have c01 := L.b0.c61
  have f01 := L.b0.fr 1
  have c02 := L.b0.c62
  have f02 := L.b0.fr 2
  have c03 := L.b0.c63
  have f03 := L.b0.fr 3
  have c04 := L.b0.c64
  have f04 := L.b0.fr 4
  have c05 := L.b0.c65
  have f05 := L.b0.fr 5
  have c10 := L.tl.b0.c60
  have c11 := L.tl.b0.c61
  have c12 := L.tl.b0.c62
  have c13 := L.tl.b0.c63
  have c14 := L.tl.b0.c64
  have c15 := L.tl.b0.c65
  (try go_wp2_with fail)
  refine (H1.out _ _ (isD_n (m := m) (e := e) (s := .slice A (zl m) c) (L.getN (v := .slice A (zl m) c) (x := (m).natAbs) (by simp)))).mono ?_
  rintro e w1 ⟨vv, rfl, id, be⟩
  clear c00 f00 c01 f01 c02 f02 c03 f03 c04 f04 c05 f05 c10 c11 c12 c13 c14 c15
  obtain ⟨A8, c8, rfl, _, in9⟩ := id.form
  replace L := (L.step be).n in9
  clear be id in9
  have hlg := L.b0.lt
  replace L := L.varD w1.heap.size rfl (ng M) A8 (zl M) c8 E
  have c00 := L.b0.c30
  have c01 := L.b0.c31
  have c02 := L.b0.c32
  have c20 := L.tl.tl.b0.c60
  have c21 := L.tl.tl.b0.c61
  have c22 := L.tl.tl.b0.c62
  have c23 := L.tl.tl.b0.c63
  have c24 := L.tl.tl.b0.c64
  have c25 := L.tl.tl.b0.c65
  go_wp2_with fail
  obtain ⟨g, hg⟩ : ∃ g, w1.heap.size = g := ⟨_, rfl⟩
  rw [hg] at L hlg c00 c01 c02 ⊢
  clear hg
  refine (H2.out _ _ (isD_n (m := n) (e := f) (s := .slice B (zl n) d) (L.getN (v := .slice B (zl n) d) (x := (n).natAbs) (by simp)))).mono ?_
  rintro e w2 ⟨vv, rfl, id, be⟩
  clear c00 c01 c02 c20 c21 c22 c23 c24 c25
  obtain ⟨A9, c9, rfl, _, in9⟩ := id.form
  replace L := (L.step be).n in9
  clear be id in9
  have hlk9 := L.b0.lt
  replace L := L.varD w2.heap.size rfl (ng N) A9 (zl N) c9 G
  have n1 : w.heap.size + 1 ≠ g := by omega
  have n2 : w.heap.size + 1 ≠ w2.heap.size := by omega
  replace L := L.pull2
  have c00 := L.b0.c60
  have f00 := L.b0.fr 0
  have c01 := L.b0.c61
  have f01 := L.b0.fr 1
  have c02 := L.b0.c62
  have f02 := L.b0.fr 2
  have c03 := L.b0.c63
  have f03 := L.b0.fr 3
  have c04 := L.b0.c64
  have f04 := L.b0.fr 4
  have c05 := L.b0.c65
  have f05 := L.b0.fr 5
  have c10 := L.tl.b0.c30
  have c11 := L.tl.b0.c31
  have c12 := L.tl.b0.c32
  have c20 := L.tl.tl.b0.c30
  have c21 := L.tl.tl.b0.c31
  have c22 := L.tl.tl.b0.c32
  go_wp2_with fail
  have LP := L.putI (by omega) (by simp [n1, n2, Ne.symm n1, Ne.symm n2]) (ng M) A8 (zl M) c8 E (ng N) A9 (zl N) c9 G
  have k0 := LP.b0.c60
  have k1 := LP.b0.c61
  have k2 := LP.b0.c62
  have k3 := LP.b0.c63
  have k4 := LP.b0.c64
  have k5 := LP.b0.c65
  unfold put6 at k0 k1 k2 k3 k4 k5
  exact bodyPost_ret (v := .tuple #[.agg #[.bool (ng M), .slice A8 (zl M) c8, .int .i64 E, .bool (ng N), .slice A9 (zl N) c9, .int .i64 G], .int .i64 0]) (by simp [results, Tryz.results64, go_sem, k0, k1, k2, k3, k4, k5]) rfl ⟨_, rfl, isI_n (LP.getN (by simp)) (LP.getN (by simp)), LP.below⟩

theorem far_up {x : Rat} (h : x < -4000) {j : Nat} (hj : j ≤ 4000) : UpE x (dq 1 (-(j : Int))) := by
  have h1 := (exp_line 1).neg (by decide +kernel)
  have h2 := h1.rp 4000
  refine (h2.mono (by rw [show ((4000 : Nat) : Rat) = 4000 from rfl]; grind)).up ?_
  have e : ∀ i : Nat, rp ((1 : Rat) + 1)⁻¹ i = dq 1 (-(i : Int)) := fun i => by
    induction i with
    | zero => decide +kernel
    | succ i ih =>
      have h4 := dq_half (i : Int)
      rw [show -((i : Int) + 1) = -((i + 1 : Nat) : Int) from rfl] at h4
      show rp ((1 : Rat) + 1)⁻¹ i * ((1 : Rat) + 1)⁻¹ = _
      rw [ih]
      grind
  rw [e]
  have h5 : dq 1 (-(j : Int)) = dq (2 ^ (4000 - j)) (-((4000 : Nat) : Int)) := by
    refine dq_eq (F := -((4000 : Nat) : Int)) ?_ (by omega) (by omega)
    rw [show (-(j : Int) - -((4000 : Nat) : Int)).toNat = 4000 - j by omega, show (-((4000 : Nat) : Int) - -((4000 : Nat) : Int)).toNat = 0 by omega]
    simp
  rw [h5, dq_le_iff]
  have := pow2_pos (4000 - j)
  omega
theorem isI_lo0 {w : World} {s : Value} {m e : Int} (h : IsN w s m.natAbs) : IsI w (.agg #[.bool false, .slice none 0 0, .int .i64 0, .bool (ng m), s, .int .i64 e]) 0 0 m e := isI_n (m := 0) (IsN.zero w) h
theorem unit_x {k : Int} (h0 : 0 ≤ k) (h1 : k ≤ 4096) : mkR 1 (-k) = 0 ∧ mkR 0 (-k) = 0 := by
  have e1 : oddM 1 = 1 := by decide +kernel
  have e2 : oddE 1 (-k) = -k := by
    unfold oddE
    rw [show tz (1 : Int).natAbs = 0 from tz_two 0]
    omega
  have e3 : fits8 1 (-k) = true := by
    unfold fits8
    rw [decide_eq_true (show -65536 ≤ -k by omega), decide_eq_true (show -k ≤ 65536 by omega)]
    decide +kernel
  constructor
  · unfold mkR
    rw [if_neg (by omega), if_neg (by decide), e1, e2, if_pos e3]
  · unfold mkR
    rw [if_neg (by omega), if_pos rfl]
theorem abp_one (j : Nat) : AbP 1 j := Nat.one_le_two_pow
theorem cut_tiny {p : Nat} (hp : p ≤ 4000) : -(cutQ (-(dq 1 (-4096))) (p : Int)) = 1 := by
  have e : cutQ (-(dq 1 (-4096))) (p : Int) = -1 := by
    have h0 : dq 1 (-(p : Int)) = dq (2 ^ (4096 - p)) (-4096) := by
      refine dq_eq (F := -4096) ?_ (by omega) (by omega)
      rw [show (-(p : Int) - -4096).toNat = 4096 - p by omega, show ((-4096 : Int) - -4096).toNat = 0 by omega]
      simp
    have h1 := pow2_pos (4096 - p)
    have h2 := (dq_le_iff 1 (2 ^ (4096 - p)) (-4096)).2 (by omega)
    have h3 := dq_pos (-4096)
    refine cut_unique ?_ ?_
    · rw [dq_neg, h0]; grind
    · rw [dq_neg]; grind
  rw [e]; rfl

set_option maxHeartbeats 16000000 in
theorem s14far_any (m e : Int) (k : Nat) (vx : Value) (w : World) (hx : IsD w vx m e) (lm : zl m ≤ 100) (he : -15000 ≤ e ∧ e ≤ 15000) (hc : dq m e < -4000) (hk : k ≤ 1000) :
    Calls Tryz.prog 16 #[vx, .int .i64 (k : Int)] w (RetEx w (dq m e) (k + 16)) := by
  obtain ⟨A, c, rfl, _, hn⟩ := hx.form
  have L0 := (Lq.mk0 w).n hn
  have g1 := fun W => rof8_any (-4000) W (by omega) (by omega)
  obtain ⟨M0, hM0⟩ : ∃ z, mkM (-4000) 0 = z := ⟨_, rfl⟩
  obtain ⟨E0, hE0⟩ : ∃ z, mkE (-4000) 0 = z := ⟨_, rfl⟩
  have eM0 : M0 = -125 := by rw [← hM0]; decide +kernel
  have eE0 : E0 = 5 := by rw [← hE0]; decide +kernel
  rw [hM0, hE0] at g1
  have zM0 : zl M0 ≤ 1 := len_le1 (x := M0.natAbs) (by omega)
  have g2 := fun x y W h k => rcmp8_any m e M0 E0 x y W h k (by omega) (by omega) (by omega) (by omega)
  have hge : dcm m e M0 E0 < 0 := by
    rw [dcm_lt, eM0, eE0, show dq (-125) 5 = -4000 from by decide +kernel]
    exact hc
  unfold dcm at hge
  obtain ⟨x0, hx0⟩ : ∃ z, cmpI (m * 2 ^ (e - min e E0).toNat) (M0 * 2 ^ (E0 - min e E0).toNat) = z := ⟨_, rfl⟩
  rw [hx0] at g2 hge
  have t0 : decide (x0 < 0) = true := decide_eq_true hge
  have g3 := fun W => rof8_any 1 W (by omega) (by omega)
  obtain ⟨M1, hM1⟩ : ∃ z, mkM 1 0 = z := ⟨_, rfl⟩
  obtain ⟨E1, hE1⟩ : ∃ z, mkE 1 0 = z := ⟨_, rfl⟩
  have eM1 : M1 = 1 := by rw [← hM1]; decide +kernel
  rw [hM1, hE1] at g3
  have g4 := fun x W h => rmake8_any M1 (-4096) x W h (Nat.le_trans (len_le1 (x := M1.natAbs) (by omega)) (by omega))
  obtain ⟨M2, hM2⟩ : ∃ z, mkM M1 (-4096) = z := ⟨_, rfl⟩
  obtain ⟨E2, hE2⟩ : ∃ z, mkE M1 (-4096) = z := ⟨_, rfl⟩
  obtain ⟨R2, hR2⟩ : ∃ z, mkR M1 (-4096) = z := ⟨_, rfl⟩
  have eM2 : M2 = 1 := by rw [← hM2, eM1]; decide +kernel
  have eE2 : E2 = -4096 := by rw [← hE2, eM1]; decide +kernel
  rw [hM2, hE2, hR2] at g4
  obtain ⟨p, hp⟩ : ∃ p, k + 16 = p := ⟨_, rfl⟩
  have w5 : IntKind.i64.wrap ((k : Int) + 16) = (p : Int) := by rw [IntKind.wrap_i64]; omega
  have c1 : cutQ (dq 0 0) (p : Int) = 0 := by
    have := cut_self 0 (p : Int)
    rw [dq_zero] at this
    rw [dq_zero]; exact this
  have c2 : -(cutQ (-(dq M2 E2)) (p : Int)) = 1 := by rw [eM2, eE2]; exact cut_tiny (by omega)
  have g5 := fun x W h => r10out_yes 0 0 M2 E2 (p : Int) x W h (Nat.le_trans (len_le1 (x := (0 : Int).natAbs) (by decide)) (by omega)) (Nat.le_trans (len_le1 (x := M2.natAbs) (by omega)) (by omega)) (by omega) (by omega) (by omega) (by omega) (by unfold permB; rw [decide_eq_true (show -2048 ≤ (p : Int) by omega), decide_eq_true (show (p : Int) ≤ 8192 by omega)]; rfl) (by rw [c1]; exact (unit_x (by omega) (by omega)).2) (by rw [c2]; exact (unit_x (by omega) (by omega)).1)
  rw [c1, c2] at g5
  have h5 : ∃ a b, mkM a (-((k + 16 : Nat) : Int)) = mkM 0 (-(p : Int)) ∧ mkE a (-((k + 16 : Nat) : Int)) = mkE 0 (-(p : Int)) ∧ mkM b (-((k + 16 : Nat) : Int)) = mkM 1 (-(p : Int)) ∧ mkE b (-((k + 16 : Nat) : Int)) = mkE 1 (-(p : Int)) ∧ LoE (dq a (-((k + 16 : Nat) : Int))) (dq m e) ∧ UpE (dq m e) (dq b (-((k + 16 : Nat) : Int))) ∧ AbP a 60000 ∧ AbP b 60000 := by
    rw [hp]
    exact ⟨0, 1, rfl, rfl, rfl, rfl, by rw [dq_zero]; exact LoE.zero _, far_up hc (by omega), AbP.zero _, abp_one _⟩
  obtain ⟨M9, hM9⟩ : ∃ z, mkM 0 (-(p : Int)) = z := ⟨_, rfl⟩
  obtain ⟨E9, hE9⟩ : ∃ z, mkE 0 (-(p : Int)) = z := ⟨_, rfl⟩
  obtain ⟨N9, hN9⟩ : ∃ z, mkM 1 (-(p : Int)) = z := ⟨_, rfl⟩
  obtain ⟨F9, hF9⟩ : ∃ z, mkE 1 (-(p : Int)) = z := ⟨_, rfl⟩
  rw [hM9, hE9, hN9, hF9] at g5 h5
  have HF := Lib.hid h5
  have G1 := Lib.hid g1
  have G2 := Lib.hid g2
  have G3 := Lib.hid g3
  have G4 := Lib.hid g4
  have G5 := Lib.hid g5
  clear g1 g2 g3 g4 g5 h5 hM0 hE0 eM0 eE0 zM0 hge hx0 hx hn hc hM1 hE1 eM1 hM2 hE2 hR2 eM2 eE2 c1 c2 hM9 hE9 hN9 hF9 hp
  go_enter Tryz.func16, Tryz.ntmps16
  go_wp2_with fail
  have L := ((L0.varD (w.heap.size) (by simp) (ng m) A (zl m) c e).varI (w.heap.size + 1) (by simp) false none 0 0 0 false none 0 0 0)
  replace L := L.drew
  have c10 := L.tl.b0.c30
  have c11 := L.tl.b0.c31
  have c12 := L.tl.b0.c32
  (try go_wp2_with fail)
  go_region_held3 (fun w' => w'.cell? ⟨w.heap.size, 0, none⟩ = some (.bool (ng m)) ∧ w'.cell? ⟨w.heap.size, 1, none⟩ = some (.slice A (zl m) c) ∧ w'.cell? ⟨w.heap.size, 2, none⟩ = some (.int .i64 e)) (first | (with_reducible exact ⟨L.tl.b0.c30, L.tl.b0.c31, L.tl.b0.c32⟩) | exact ⟨L.tl.b0.c30, L.tl.b0.c31, L.tl.b0.c32⟩) (first | (go_at_call 18; (with_reducible refine (G1.out _ ).mono ?_); rintro e wh ⟨vh, rfl, id, be⟩; obtain ⟨A0, c0, rfl, _, in9⟩ := id.form; replace L := (L.step be).n in9; clear be id in9) | (go_at_call 30; (with_reducible refine (G2.out _ _ _ ?_ ?_ ).mono ?_); (· (refine isD_n (L.getN ?_); (repeat (first | (with_reducible exact List.mem_cons_self) | apply List.mem_cons_of_mem)))); (· (refine isD_n (L.getN ?_); (repeat (first | (with_reducible exact List.mem_cons_self) | apply List.mem_cons_of_mem)))); rintro e wh ⟨rfl, be⟩; replace L := L.step be; clear be))
  clear c10 c11 c12
  have hfm : ∀ (b : Bool) (A : Option Addr) (n c : Nat) (e : Int) (W : World), (Instr.field 26 (.agg #[.bool b, .slice A n c, .int .i64 e]) 0).run Tryz.prog W = .ok (.agg #[.bool b, .slice A n c]) W := fun _ _ _ _ _ _ => by kernel_rfl
  go_wp2_with fail
  refine (G3.out _).mono ?_
  rintro e w1 ⟨vv, rfl, id, be⟩
  obtain ⟨A1, c1, rfl, _, in9⟩ := id.form
  replace L := (L.step be).n in9
  clear be id in9
  go_wp2_with fail
  refine (G4.out _ _ (isZ_s (z := M1) (s := .slice A1 (zl M1) c1) (L.getN (by simp)))).mono ?_
  rintro e w2 ⟨vv, rfl, id, be⟩
  obtain ⟨A2, c2, rfl, _, in9⟩ := id.form
  replace L := (L.step be).n in9
  clear be id in9
  have hl0 := L.b0.lt
  replace L := L.varD w2.heap.size rfl (ng M2) A2 (zl M2) c2 E2
  have c00 := L.b0.c30
  have c01 := L.b0.c31
  have c02 := L.b0.c32
  go_wp2_with fail
  clear c00 c01 c02
  refine (G5.out _ _ (isI_lo0 (m := M2) (e := E2) (s := .slice A2 (zl M2) c2) (L.getN (by simp)))).mono ?_
  rintro e w3 ⟨vv, rfl, ii, be⟩
  obtain ⟨A6, c6, B6, d6, rfl, ia, ib⟩ := ii.form
  replace L := ((L.step be).n ib).n ia
  clear be ii ia ib
  replace L := L.varI w3.heap.size rfl (ng M9) A6 (zl M9) c6 E9 (ng N9) B6 (zl N9) d6 F9
  have c00 := L.b0.c60
  have c01 := L.b0.c61
  have c02 := L.b0.c62
  have c03 := L.b0.c63
  have c04 := L.b0.c64
  have c05 := L.b0.c65
  have LS := L.subx (ns' := [(.slice A6 (zl M9) c6, M9.natAbs), (.slice B6 (zl N9) d6, N9.natAbs)]) (bs' := [(w.heap.size + 1, 28, #[.bool false, .slice none 0 0, .int .i64 0, .bool false, .slice none 0 0, .int .i64 0])]) (by simp) (by simp)
  have s0 := LS.b0.c60
  have r0 := LS.b0.fr 0
  have s1 := LS.b0.c61
  have r1 := LS.b0.fr 1
  have s2 := LS.b0.c62
  have r2 := LS.b0.fr 2
  have s3 := LS.b0.c63
  have r3 := LS.b0.fr 3
  have s4 := LS.b0.c64
  have r4 := LS.b0.fr 4
  have s5 := LS.b0.c65
  have r5 := LS.b0.fr 5
  go_wp2_with fail
  have LP := LS.putI (by omega) (by simp) (ng M9) A6 (zl M9) c6 E9 (ng N9) B6 (zl N9) d6 F9
  have k0 := LP.b0.c60
  have k1 := LP.b0.c61
  have k2 := LP.b0.c62
  have k3 := LP.b0.c63
  have k4 := LP.b0.c64
  have k5 := LP.b0.c65
  unfold put6 at k0 k1 k2 k3 k4 k5
  exact bodyPost_ret (v := .agg #[.bool (ng M9), .slice A6 (zl M9) c6, .int .i64 E9, .bool (ng N9), .slice B6 (zl N9) d6, .int .i64 F9]) (by simp [results, Tryz.results16, go_sem, k0, k1, k2, k3, k4, k5]) rfl (RetEx.mk HF.out ⟨_, rfl, isI_n (LP.getN (by simp)) (LP.getN (by simp)), LP.below⟩)

set_option maxHeartbeats 8000000 in
theorem s13near_any (m e n f m1 e1 n1 f1 m2 e2 n2 f2 k M E R Ma Ea Mb Eb x1 x2 x3 x4 : Int) (vx vl vh : Value) (w : World) (hx : IsI w vx m e n f) (hl : IsI w vl m1 e1 n1 f1) (hh : IsI w vh m2 e2 n2 f2) (w1 : IntKind.i64.wrap (k - 1) = k - 1) (h0 : ∀ v W, IsI W v m e n f → Calls Tryz.prog 36 #[v] W (RetB W true)) (h1 : ∀ v W, IsD W v m e → Calls Tryz.prog 37 #[v, .int .i64 k] W (RetB W true)) (h2 : ∀ v W, IsD W v n f → Calls Tryz.prog 37 #[v, .int .i64 k] W (RetB W true)) (h3 : ∀ W, Calls Tryz.prog 38 #[.int .i64 (k - 1)] W (RetDE W M E R)) (h4 : ∀ v u W, IsD W v m1 e1 → IsD W u M E → Calls Tryz.prog 20 #[v, u] W (RetDE W Ma Ea 0)) (h5 : ∀ v u W, IsD W v n2 f2 → IsD W u M E → Calls Tryz.prog 22 #[v, u] W (RetDE W Mb Eb 0)) (h6 : (∀ v u W, IsD W v m e → IsD W u n1 f1 → Calls Tryz.prog 30 #[v, u] W (RetI W x1))) (h7 : (∀ v u W, IsD W v Ma Ea → IsD W u m e → Calls Tryz.prog 30 #[v, u] W (RetI W x2))) (h8 : (∀ v u W, IsD W v m2 e2 → IsD W u n f → Calls Tryz.prog 30 #[v, u] W (RetI W x3))) (h9 : (∀ v u W, IsD W v n f → IsD W u Mb Eb → Calls Tryz.prog 30 #[v, u] W (RetI W x4))) (q1 : x1 ≤ 0) (q2 : x2 ≤ 0) (q3 : x3 ≤ 0) (q4 : x4 ≤ 0) :
    Calls Tryz.prog 15 #[vx, vl, vh, .int .i64 k] w (RetB w true) := by
  obtain ⟨A, c, B, d, rfl, hn1, hn2⟩ := hx.form
  obtain ⟨A1, c1, B1, d1, rfl, hn3, hn4⟩ := hl.form
  obtain ⟨A2, c2, B2, d2, rfl, hn5, hn6⟩ := hh.form
  have L0 := ((((((Lq.mk0 w).n hn6).n hn5).n hn4).n hn3).n hn2).n hn1
  have H0 := Lib.hid h0
  have H1 := Lib.hid h1
  have H2 := Lib.hid h2
  have H3 := Lib.hid h3
  have H4 := Lib.hid h4
  have H5 := Lib.hid h5
  have H6 := Lib.hid h6
  have H7 := Lib.hid h7
  have H8 := Lib.hid h8
  have H9 := Lib.hid h9
  have p1 : decide (x1 ≤ 0) = true := decide_eq_true q1
  have p2 : decide (x2 ≤ 0) = true := decide_eq_true q2
  have p3 : decide (x3 ≤ 0) = true := decide_eq_true q3
  have p4 : decide (x4 ≤ 0) = true := decide_eq_true q4
  clear h0 h1 h2 h3 h4 h5 h6 h7 h8 h9 hx hl hh hn1 hn2 hn3 hn4 hn5 hn6 q1 q2 q3 q4
  go_enter Tryz.func15, Tryz.ntmps15
  go_wp2_with fail
  have L := (((L0.varI (w.heap.size) (by simp) (ng m) A (zl m) c e (ng n) B (zl n) d f).varI (w.heap.size + 1) (by simp) (ng m1) A1 (zl m1) c1 e1 (ng n1) B1 (zl n1) d1 f1).varI (w.heap.size + 2) (by simp) (ng m2) A2 (zl m2) c2 e2 (ng n2) B2 (zl n2) d2 f2)
  have c20 := L.tl.tl.b0.c60
  have c21 := L.tl.tl.b0.c61
  have c22 := L.tl.tl.b0.c62
  have c23 := L.tl.tl.b0.c63
  have c24 := L.tl.tl.b0.c64
  have c25 := L.tl.tl.b0.c65
  (try go_wp2_with fail)
  refine (H0.out _ _ (isI_n (m := m) (e := e) (n := n) (f := f) (L.getN (by simp)) (L.getN (by simp)))).mono ?_
  rintro e w1 ⟨rfl, be⟩
  clear c20 c21 c22 c23 c24 c25
  replace L := L.step be
  clear be
  have c20 := L.tl.tl.b0.c60
  have c21 := L.tl.tl.b0.c61
  have c22 := L.tl.tl.b0.c62
  have c23 := L.tl.tl.b0.c63
  have c24 := L.tl.tl.b0.c64
  have c25 := L.tl.tl.b0.c65
  (try go_wp2_with fail)
  refine (H1.out _ _ (isD_n (m := m) (e := e) (s := .slice A (zl m) c) (L.getN (by simp)))).mono ?_
  rintro e w2 ⟨rfl, be⟩
  clear c20 c21 c22 c23 c24 c25
  replace L := L.step be
  clear be
  have c20 := L.tl.tl.b0.c60
  have c21 := L.tl.tl.b0.c61
  have c22 := L.tl.tl.b0.c62
  have c23 := L.tl.tl.b0.c63
  have c24 := L.tl.tl.b0.c64
  have c25 := L.tl.tl.b0.c65
  (try go_wp2_with fail)
  refine (H2.out _ _ (isD_n (m := n) (e := f) (s := .slice B (zl n) d) (L.getN (by simp)))).mono ?_
  rintro e w3 ⟨rfl, be⟩
  clear c20 c21 c22 c23 c24 c25
  replace L := L.step be
  clear be
  (try go_wp2_with fail)
  refine (H3.out _).mono ?_
  rintro e w4 ⟨vv, rfl, id, be⟩
  obtain ⟨A3, c3, rfl, _, in9⟩ := id.form
  replace L := (L.step be).n in9
  clear be id in9
  have hl0 := L.b0.lt
  replace L := L.varD w4.heap.size rfl (ng M) A3 (zl M) c3 E
  have c00 := L.b0.c30
  have c01 := L.b0.c31
  have c02 := L.b0.c32
  have c20 := L.tl.tl.b0.c60
  have c21 := L.tl.tl.b0.c61
  have c22 := L.tl.tl.b0.c62
  have c23 := L.tl.tl.b0.c63
  have c24 := L.tl.tl.b0.c64
  have c25 := L.tl.tl.b0.c65
  go_wp2_with fail
  clear c00 c01 c02 c20 c21 c22 c23 c24 c25
  obtain ⟨g3, hg3⟩ : ∃ g9, w4.heap.size = g9 := ⟨_, rfl⟩
  rw [hg3] at L hl0 ⊢
  clear hg3
  refine (H4.out _ _ _ (isD_n (m := m1) (e := e1) (s := .slice A1 (zl m1) c1) (L.getN (by simp))) (isD_n (m := M) (e := E) (s := .slice A3 (zl M) c3) (L.getN (by simp)))).mono ?_
  rintro e w5 ⟨vv, rfl, id, be⟩
  obtain ⟨A4, c4, rfl, _, in9⟩ := id.form
  replace L := (L.step be).n in9
  clear be id in9
  have hl1 := L.b0.lt
  replace L := L.varD w5.heap.size rfl (ng Ma) A4 (zl Ma) c4 Ea
  have c10 := L.tl.b0.c30
  have c11 := L.tl.b0.c31
  have c12 := L.tl.b0.c32
  have c20 := L.tl.tl.b0.c60
  have c21 := L.tl.tl.b0.c61
  have c22 := L.tl.tl.b0.c62
  have c23 := L.tl.tl.b0.c63
  have c24 := L.tl.tl.b0.c64
  have c25 := L.tl.tl.b0.c65
  go_wp2_with fail
  clear c10 c11 c12 c20 c21 c22 c23 c24 c25
  obtain ⟨g4, hg4⟩ : ∃ g9, w5.heap.size = g9 := ⟨_, rfl⟩
  rw [hg4] at L hl1 ⊢
  clear hg4
  refine (H5.out _ _ _ (isD_n (m := n2) (e := f2) (s := .slice B2 (zl n2) d2) (L.getN (by simp))) (isD_n (m := M) (e := E) (s := .slice A3 (zl M) c3) (L.getN (by simp)))).mono ?_
  rintro e w6 ⟨vv, rfl, id, be⟩
  obtain ⟨A5, c5, rfl, _, in9⟩ := id.form
  replace L := (L.step be).n in9
  clear be id in9
  have hl2 := L.b0.lt
  replace L := L.varD w6.heap.size rfl (ng Mb) A5 (zl Mb) c5 Eb
  have c00 := L.b0.c30
  have c01 := L.b0.c31
  have c02 := L.b0.c32
  have c40 := L.tl.tl.tl.tl.b0.c60
  have c41 := L.tl.tl.tl.tl.b0.c61
  have c42 := L.tl.tl.tl.tl.b0.c62
  have c43 := L.tl.tl.tl.tl.b0.c63
  have c44 := L.tl.tl.tl.tl.b0.c64
  have c45 := L.tl.tl.tl.tl.b0.c65
  have c50 := L.tl.tl.tl.tl.tl.b0.c60
  have c51 := L.tl.tl.tl.tl.tl.b0.c61
  have c52 := L.tl.tl.tl.tl.tl.b0.c62
  have c53 := L.tl.tl.tl.tl.tl.b0.c63
  have c54 := L.tl.tl.tl.tl.tl.b0.c64
  have c55 := L.tl.tl.tl.tl.tl.b0.c65
  go_wp2_with fail
  clear c00 c01 c02 c40 c41 c42 c43 c44 c45 c50 c51 c52 c53 c54 c55
  obtain ⟨g5, hg5⟩ : ∃ g9, w6.heap.size = g9 := ⟨_, rfl⟩
  rw [hg5] at L hl2 ⊢
  clear hg5
  refine (H6.out _ _ _ (isD_n (m := m) (e := e) (s := .slice A (zl m) c) (L.getN (by simp))) (isD_n (m := n1) (e := f1) (s := .slice B1 (zl n1) d1) (L.getN (by simp)))).mono ?_
  rintro e w7 ⟨rfl, be⟩
  replace L := L.step be
  clear be
  have c10 := L.tl.b0.c30
  have c11 := L.tl.b0.c31
  have c12 := L.tl.b0.c32
  have c50 := L.tl.tl.tl.tl.tl.b0.c60
  have c51 := L.tl.tl.tl.tl.tl.b0.c61
  have c52 := L.tl.tl.tl.tl.tl.b0.c62
  have c53 := L.tl.tl.tl.tl.tl.b0.c63
  have c54 := L.tl.tl.tl.tl.tl.b0.c64
  have c55 := L.tl.tl.tl.tl.tl.b0.c65
  (try go_wp2_with fail)
  refine (H7.out _ _ _ (isD_n (m := Ma) (e := Ea) (s := .slice A4 (zl Ma) c4) (L.getN (by simp))) (isD_n (m := m) (e := e) (s := .slice A (zl m) c) (L.getN (by simp)))).mono ?_
  rintro e w8 ⟨rfl, be⟩
  clear c10 c11 c12 c50 c51 c52 c53 c54 c55
  replace L := L.step be
  clear be
  have c30 := L.tl.tl.tl.b0.c60
  have c31 := L.tl.tl.tl.b0.c61
  have c32 := L.tl.tl.tl.b0.c62
  have c33 := L.tl.tl.tl.b0.c63
  have c34 := L.tl.tl.tl.b0.c64
  have c35 := L.tl.tl.tl.b0.c65
  have c50 := L.tl.tl.tl.tl.tl.b0.c60
  have c51 := L.tl.tl.tl.tl.tl.b0.c61
  have c52 := L.tl.tl.tl.tl.tl.b0.c62
  have c53 := L.tl.tl.tl.tl.tl.b0.c63
  have c54 := L.tl.tl.tl.tl.tl.b0.c64
  have c55 := L.tl.tl.tl.tl.tl.b0.c65
  (try go_wp2_with fail)
  refine (H8.out _ _ _ (isD_n (m := m2) (e := e2) (s := .slice A2 (zl m2) c2) (L.getN (by simp))) (isD_n (m := n) (e := f) (s := .slice B (zl n) d) (L.getN (by simp)))).mono ?_
  rintro e w9 ⟨rfl, be⟩
  clear c30 c31 c32 c33 c34 c35 c50 c51 c52 c53 c54 c55
  replace L := L.step be
  clear be
  have c00 := L.b0.c30
  have c01 := L.b0.c31
  have c02 := L.b0.c32
  have c50 := L.tl.tl.tl.tl.tl.b0.c60
  have c51 := L.tl.tl.tl.tl.tl.b0.c61
  have c52 := L.tl.tl.tl.tl.tl.b0.c62
  have c53 := L.tl.tl.tl.tl.tl.b0.c63
  have c54 := L.tl.tl.tl.tl.tl.b0.c64
  have c55 := L.tl.tl.tl.tl.tl.b0.c65
  (try go_wp2_with fail)
  refine (H9.out _ _ _ (isD_n (m := n) (e := f) (s := .slice B (zl n) d) (L.getN (by simp))) (isD_n (m := Mb) (e := Eb) (s := .slice A5 (zl Mb) c5) (L.getN (by simp)))).mono ?_
  rintro e w10 ⟨rfl, be⟩
  clear c00 c01 c02 c50 c51 c52 c53 c54 c55
  replace L := L.step be
  clear be
  (try go_wp2_with fail)
  (try go_ret)
  exact ⟨rfl, L.below⟩

/-- A sum of two numbers on one grid, however large. -/
theorem big_add {m e n k s t : Int} {j : Nat} (he : -(j : Int) ≤ e) (hk : -(j : Int) ≤ k) (hs : dq m e = dq s (-(j : Int))) (ht : dq n k = dq t (-(j : Int))) (hz : AbP (s + t) 60100) (hmin : min e k ≤ 4000) (hj : j ≤ 5000) :
    mkR (addS m e n k) (min e k) = 0 ∧ dq (mkM (addS m e n k) (min e k)) (mkE (addS m e n k) (min e k)) = dq (s + t) (-(j : Int)) ∧ zl (mkM (addS m e n k) (min e k)) ≤ 1900 ∧ (-5000 ≤ mkE (addS m e n k) (min e k) ∧ mkE (addS m e n k) (min e k) ≤ 70000) := by
  have h1 := dq_add m e n k
  rw [hs, ht, ← dq_addI] at h1
  obtain ⟨V, hV⟩ : ∃ V, addS m e n k = V := ⟨_, rfl⟩
  obtain ⟨r, hr⟩ : ∃ r : Nat, min e k + (j : Int) = (r : Int) := ⟨(min e k + (j : Int)).toNat, by omega⟩
  rw [hV] at h1 ⊢
  have h2 : dq V (min e k) = dq (V * 2 ^ r) (-(j : Int)) := by
    refine dq_eq (F := -(j : Int)) ?_ (by omega) (by omega)
    rw [show (min e k - -(j : Int)).toNat = r by omega, show (-(j : Int) - -(j : Int)).toNat = 0 by omega]
    simp
  have h3 : V * 2 ^ r = s + t := dq_inj (h2.symm.trans h1)
  have hV2 : AbP V 60100 := by
    unfold AbP at *
    rw [← h3, abs_shl] at hz
    exact Nat.le_trans (Nat.le_mul_of_pos_right _ (Nat.pow_pos (by omega))) hz
  have zv := hV2.zl
  have hr0 : mkR V (min e k) = 0 := mk_fits2 (by omega) (by omega) (by omega)
  have z1 := zl_mk V (min e k)
  have z2 := mkE_at hr0 zv
  exact ⟨hr0, by rw [dq_mk hr0, h1], by omega, by omega⟩
/-- A number on the grid of j, however large. -/
theorem npB {T : Int} {j : Nat} (h : AbP T 60000) (hj : j ≤ 5000) :
    mkR T (-(j : Int)) = 0 ∧ zl (mkM T (-(j : Int))) ≤ 1876 ∧ (-(j : Int) ≤ mkE T (-(j : Int)) ∧ mkE T (-(j : Int)) ≤ 60100) ∧ dq (mkM T (-(j : Int))) (mkE T (-(j : Int))) = dq T (-(j : Int)) := by
  have hz := h.zl
  have hr : mkR T (-(j : Int)) = 0 := mk_fits2 (by omega) (by omega) (by omega)
  have z1 := zl_mk T (-(j : Int))
  have z2 := mkE_at hr (k := 1876) (by omega)
  exact ⟨hr, by omega, by omega, dq_mk hr⟩
theorem unit2 (k : Nat) : dq 1 (-((k : Int) - 1)) = 2 * dq 1 (-(k : Int)) := by
  rw [show -((k : Int) - 1) = 1 + -(k : Int) by omega, dq_add1]
  have v : dq 1 1 = 2 := by decide +kernel
  rw [v]
/-- What is known of a result: its lower and upper end, in units of 2^-k. -/
def EpA (k : Nat) (a : Int) (x : Rat) : Prop := 0 ≤ a ∧ AbP a (k + 302) ∧ LoE (dq a (-(k : Int))) x ∧ UpE x (dq a (-(k : Int)) + 2 * dq 1 (-(k : Int)))
def EpB (k : Nat) (b : Int) (x : Rat) : Prop := AbP b (k + 302) ∧ LoE (dq b (-(k : Int)) - 2 * dq 1 (-(k : Int))) x ∧ UpE x (dq b (-(k : Int)))
/-- Of an enclosure of the reference. -/
def ExB (j : Nat) (a b : Int) (x : Rat) : Prop := LoE (dq a (-(j : Int))) x ∧ UpE x (dq b (-(j : Int))) ∧ AbP a 60000 ∧ AbP b 60000
theorem ep_le {k : Nat} {a b : Int} {x y : Rat} (ha : EpA k a x) (hb : EpB k b y) (hxy : x ≤ y) : a ≤ b := by
  have h0 := (dq_le_iff 0 a (-(k : Int))).2 ha.1
  rw [dq_zero] at h0
  exact (dq_le_iff _ _ _).1 ((ha.2.2.1.mono hxy h0).le hb.2.2)

set_option maxHeartbeats 4000000 in
theorem near14 (k : Nat) (a b a1 b1 a2 b2 : Int) (x1 x2 : Rat) (vx vl vh : Value) (w : World) (hk : k ≤ 220) (hxy : x1 ≤ x2) (pa : EpA k a x1) (pb : EpB k b x2) (pl : ExB (k + 16) a1 b1 x1) (ph : ExB (k + 16) a2 b2 x2) (hx : IsI w vx (mkM a (-(k : Int))) (mkE a (-(k : Int))) (mkM b (-(k : Int))) (mkE b (-(k : Int)))) (hl : IsI w vl (mkM a1 (-((k + 16 : Nat) : Int))) (mkE a1 (-((k + 16 : Nat) : Int))) (mkM b1 (-((k + 16 : Nat) : Int))) (mkE b1 (-((k + 16 : Nat) : Int)))) (hh : IsI w vh (mkM a2 (-((k + 16 : Nat) : Int))) (mkE a2 (-((k + 16 : Nat) : Int))) (mkM b2 (-((k + 16 : Nat) : Int))) (mkE b2 (-((k + 16 : Nat) : Int)))) :
    Calls Tryz.prog 15 #[vx, vl, vh, .int .i64 (k : Int)] w (RetB w true) := by
  obtain ⟨j, hj⟩ : ∃ j, k + 16 = j := ⟨_, rfl⟩
  rw [hj] at pl ph hl hh
  have hle := ep_le pa pb hxy
  obtain ⟨a0, az, al, au⟩ := pa
  obtain ⟨bz, bl, bu⟩ := pb
  obtain ⟨l1, l2, l3, l4⟩ := pl
  obtain ⟨h1, h2, h3, h4⟩ := ph
  obtain ⟨A1, A2, A3, A4, A5⟩ := np az (by omega) (show k ≤ 3000 by omega)
  obtain ⟨B1, B2, B3, B4, B5⟩ := np bz (by omega) (show k ≤ 3000 by omega)
  obtain ⟨C1, C2, C3, C4⟩ := npB l3 (show j ≤ 5000 by omega)
  obtain ⟨D1, D2, D3, D4⟩ := npB l4 (show j ≤ 5000 by omega)
  obtain ⟨E1, E2, E3, E4⟩ := npB h3 (show j ≤ 5000 by omega)
  obtain ⟨F1, F2, F3, F4⟩ := npB h4 (show j ≤ 5000 by omega)
  have hpk : permB (k : Int) = true := by
    unfold permB
    rw [decide_eq_true (show (-2048 : Int) ≤ (k : Int) by omega), decide_eq_true (show (k : Int) ≤ 8192 by omega)]
    rfl
  have hpj : permB ((k : Int) - 1) = true := by
    unfold permB
    rw [decide_eq_true (show (-2048 : Int) ≤ (k : Int) - 1 by omega), decide_eq_true (show (k : Int) - 1 ≤ 8192 by omega)]
    rfl
  obtain ⟨y1, y2, y3⟩ := g_yes hpj 1
  have z11 : zl 1 ≤ 1 := len_le1 (show 1 < 4294967296 by omega)
  have hr1 : mkR 1 (-((k : Int) - 1)) = 0 := mk_fits2 (Nat.le_trans z11 (by omega)) (by omega) (by omega)
  have zu := Nat.le_trans (zl_mk 1 (-((k : Int) - 1))) z11
  have eu := mkE_at hr1 z11
  have qu := dq_mk hr1
  have eu1 : dq 1 (-((k : Int) - 1)) = dq 131072 (-(j : Int)) := by
    refine dq_eq (F := -(j : Int)) ?_ (by omega) (by omega)
    rw [show (-((k : Int) - 1) - -(j : Int)).toNat = 17 by omega, show (-(j : Int) - -(j : Int)).toNat = 0 by omega]
    decide
  have eu2 : dq (-(mkM 1 (-((k : Int) - 1)))) (mkE 1 (-((k : Int) - 1))) = dq (-131072) (-(j : Int)) := by
    rw [dq_neg, qu, eu1, ← dq_neg]
  have eu3 : -(j : Int) ≤ mkE 1 (-((k : Int) - 1)) ∧ mkE 1 (-((k : Int) - 1)) ≤ 100 := by rcases eu with e | e <;> omega
  have p17 : AbP 131072 60000 := AbP.up (j := 17) (by unfold AbP; decide) (by omega)
  obtain ⟨S1, S2, S3, S4⟩ := big_add (m := mkM a1 (-(j : Int))) (e := mkE a1 (-(j : Int))) C3.1 eu3.1 C4 eu2 ((l3.add p17.neg).up (by omega)) (by omega) (show j ≤ 5000 by omega)
  obtain ⟨T1, T2, T3, T4⟩ := big_add (m := mkM b2 (-(j : Int))) (e := mkE b2 (-(j : Int))) F3.1 eu3.1 F4 (qu.trans eu1) ((h4.add p17).up (by omega)) (by omega) (show j ≤ 5000 by omega)
  have hu2 : dq 131072 (-(j : Int)) = 2 * dq 1 (-(k : Int)) := eu1.symm.trans (unit2 k)
  have w1 : IntKind.i64.wrap ((k : Int) - 1) = (k : Int) - 1 := by rw [IntKind.wrap_i64]; omega
  have c1 := al.le l2
  have c2 := l1.le au
  have c3 := h1.le bu
  have c4 := bl.le h2
  refine s13near_any (mkM a (-(k : Int))) (mkE a (-(k : Int))) (mkM b (-(k : Int))) (mkE b (-(k : Int))) (mkM a1 (-(j : Int))) (mkE a1 (-(j : Int))) (mkM b1 (-(j : Int))) (mkE b1 (-(j : Int))) (mkM a2 (-(j : Int))) (mkE a2 (-(j : Int))) (mkM b2 (-(j : Int))) (mkE b2 (-(j : Int))) (k : Int) (mkM 1 (-((k : Int) - 1))) (mkE 1 (-((k : Int) - 1))) 0 (mkM (addS (mkM a1 (-(j : Int))) (mkE a1 (-(j : Int))) (-(mkM 1 (-((k : Int) - 1)))) (mkE 1 (-((k : Int) - 1)))) (min (mkE a1 (-(j : Int))) (mkE 1 (-((k : Int) - 1))))) (mkE (addS (mkM a1 (-(j : Int))) (mkE a1 (-(j : Int))) (-(mkM 1 (-((k : Int) - 1)))) (mkE 1 (-((k : Int) - 1)))) (min (mkE a1 (-(j : Int))) (mkE 1 (-((k : Int) - 1))))) (mkM (addS (mkM b2 (-(j : Int))) (mkE b2 (-(j : Int))) (mkM 1 (-((k : Int) - 1))) (mkE 1 (-((k : Int) - 1)))) (min (mkE b2 (-(j : Int))) (mkE 1 (-((k : Int) - 1))))) (mkE (addS (mkM b2 (-(j : Int))) (mkE b2 (-(j : Int))) (mkM 1 (-((k : Int) - 1))) (mkE 1 (-((k : Int) - 1)))) (min (mkE b2 (-(j : Int))) (mkE 1 (-((k : Int) - 1)))))
    _ _ _ _ vx vl vh w hx hl hh w1 ?_ ?_ ?_ ?_ ?_ ?_ (fun v u W h1 h2 => rcmp8_any _ _ _ _ v u W h1 h2 (by omega) (by omega) (by omega) (by omega)) (fun v u W h1 h2 => rcmp8_any _ _ _ _ v u W h1 h2 (by omega) (by omega) (by omega) (by omega)) (fun v u W h1 h2 => rcmp8_any _ _ _ _ v u W h1 h2 (by omega) (by omega) (by omega) (by omega)) (fun v u W h1 h2 => rcmp8_any _ _ _ _ v u W h1 h2 (by omega) (by omega) (by omega) (by omega)) ?_ ?_ ?_ ?_
  · intro v W h
    have s := r10valid_any _ _ _ _ v W h (by omega) (by omega) (by omega) (by omega) A4 B4
    rwa [decide_eq_true (show dcm (mkM a (-(k : Int))) (mkE a (-(k : Int))) (mkM b (-(k : Int))) (mkE b (-(k : Int))) ≤ 0 from (dcm_le _ _ _ _).2 (by rw [A5, B5]; exact (dq_le_iff _ _ _).2 hle))] at s
  · intro v W h
    have s := ron9_any _ _ (k : Int) v W h (by omega) (by omega)
    unfold onB at s
    rwa [hpk, decide_eq_true A3.1, Bool.or_true, Bool.and_true] at s
  · intro v W h
    have s := ron9_any _ _ (k : Int) v W h (by omega) (by omega)
    unfold onB at s
    rwa [hpk, decide_eq_true B3.1, Bool.or_true, Bool.and_true] at s
  · intro W
    have s := runit9_any ((k : Int) - 1) W (by omega) (by omega)
    rwa [y1, y2, y3, hr1] at s
  · intro v u W h k9
    have s := rsub8_any _ _ _ _ v u W h k9 (by omega) (by omega) (by omega) (by omega)
    rwa [S1] at s
  · intro v u W h k9
    have s := radd8_any _ _ _ _ v u W h k9 (by omega) (by omega) (by omega) (by omega)
    rwa [T1] at s
  · exact (dcm_le _ _ _ _).2 (by rw [A5, D4]; exact c1)
  · refine (dcm_le _ _ _ _).2 ?_
    rw [S2, A5, dq_addI, dq_neg, hu2]
    generalize dq a (-(k : Int)) = p at *
    generalize dq 1 (-(k : Int)) = u at *
    generalize dq a1 (-(j : Int)) = q at *
    clear al au bl bu l1 l2 h1 h2 hl hh hx S1 S2 T1 T2
    grind
  · exact (dcm_le _ _ _ _).2 (by rw [B5, E4]; exact c3)
  · refine (dcm_le _ _ _ _).2 ?_
    rw [T2, B5, dq_addI, hu2]
    generalize dq b (-(k : Int)) = p at *
    generalize dq 1 (-(k : Int)) = u at *
    generalize dq b2 (-(j : Int)) = q at *
    clear al au bl bu l1 l2 h1 h2 hl hh hx S1 S2 T1 T2
    grind

theorem mk_val11 {m e : Int} {z : Nat} {M : Int} (h : mkR m e = 0) (hm : m ≠ 0) (hz : tz m.natAbs = z) (ho : oddM m = M) : mkM m e = M ∧ mkE m e = e + (z : Int) := by
  unfold mkM mkE
  rw [h, if_pos rfl, if_neg hm, if_pos rfl, ho]
  refine ⟨rfl, ?_⟩
  unfold oddE
  rw [hz]
theorem small11 {m : Int} (h : m.natAbs < 4294967296) : zl m ≤ 1900 := Nat.le_trans (len_le1 h) (by omega)
theorem mk_odd11 {M : Int} {z : Nat} {m e : Int} (hm : M * 2 ^ z = m) (ho : M.natAbs % 2 = 1) (hs : m.natAbs < 4294967296) (h1 : -4000 ≤ e) (h2 : e ≤ 4000) : mkM m e = M ∧ mkE m e = e + (z : Int) := by
  have h := mk_fits (m := m) (e := e) (small11 hs) h1 h2
  have hm0 : m ≠ 0 := by
    have hM : M ≠ 0 := fun h0 => by rw [h0] at ho; exact absurd ho (by decide)
    rw [← hm]
    exact Int.mul_ne_zero hM (pow2_ne z)
  have hz : tz m.natAbs = z := by rw [← hm, abs_shl]; exact tz_odd ho z
  have ho2 : oddM m = M := by rw [← hm]; exact odd_shl ho z
  exact mk_val11 h hm0 hz ho2
theorem zl_small {m : Int} (h : m.natAbs < 4294967296) : zl m ≤ 6 := Nat.le_trans (len_le1 h) (by omega)
theorem mk_one (j : Nat) (hj : j ≤ 100) : mkM 1 (-(j : Int)) = 1 ∧ mkE 1 (-(j : Int)) = -(j : Int) ∧ mkR 1 (-(j : Int)) = 0 := by
  have h := mk_odd11 (M := 1) (z := 0) (m := 1) (e := -(j : Int)) (by decide) (by decide) (by decide) (by omega) (by omega)
  exact ⟨h.1, by rw [h.2]; omega, mk_fits (small11 (by decide)) (by omega) (by omega)⟩
/-- What Thin makes of the upper end: the lesser one of it and a number above the lower end. -/
def thM (m e n f : Int) (j : Nat) : Int := mkM (addS m e 1 (-(j : Int))) (min e (-(j : Int)))
def thE (m e n f : Int) (j : Nat) : Int := mkE (addS m e 1 (-(j : Int))) (min e (-(j : Int)))
def thN (m e n f : Int) (j : Nat) : Int := if dcm (thM m e n f j) (thE m e n f j) n f < 0 then thM m e n f j else n
def thF (m e n f : Int) (j : Nat) : Int := if dcm (thM m e n f j) (thE m e n f j) n f < 0 then thE m e n f j else f
set_option maxHeartbeats 4000000 in
theorem of14_any (a b : Int) (w : World) (h1 : -4000 ≤ a ∧ a ≤ 4000) (h2 : -4000 ≤ b ∧ b ≤ 4000) :
    Calls Tryz.prog 49 #[.int .i64 a, .int .i64 b] w (RetI6 w (mkM a 0) (mkE a 0) (mkM b 0) (mkE b 0)) := by
  have HA := Lib.hid (fun W => rof8_any a W (by omega) (by omega))
  have HB := Lib.hid (fun W => rof8_any b W (by omega) (by omega))
  generalize mkM a 0 = m at *
  generalize mkE a 0 = e at *
  generalize mkM b 0 = n at *
  generalize mkE b 0 = f at *
  clear h1 h2
  go_enter Tryz.func49, Tryz.ntmps49
  go_wp2_with fail
  have L := ((Lq.mk0 w).varI (w.heap.size) (by simp) false none 0 0 0 false none 0 0 0)
  have c00 := L.b0.c60
  have f00 := L.b0.fr 0
  have c01 := L.b0.c61
  have f01 := L.b0.fr 1
  have c02 := L.b0.c62
  have f02 := L.b0.fr 2
  have c03 := L.b0.c63
  have f03 := L.b0.fr 3
  have c04 := L.b0.c64
  have f04 := L.b0.fr 4
  have c05 := L.b0.c65
  have f05 := L.b0.fr 5
  (try go_wp2_with fail)
  refine (HA.out _).mono ?_
  rintro e w1 ⟨v1, rfl, id, be⟩
  clear c00 f00 c01 f01 c02 f02 c03 f03 c04 f04 c05 f05
  obtain ⟨A, c, rfl, _, in9⟩ := id.form
  replace L := (L.step be).n in9
  clear be id in9
  have c00 := L.b0.c60
  have f00 := L.b0.fr 0
  have c01 := L.b0.c61
  have f01 := L.b0.fr 1
  have c02 := L.b0.c62
  have f02 := L.b0.fr 2
  have c03 := L.b0.c63
  have f03 := L.b0.fr 3
  have c04 := L.b0.c64
  have f04 := L.b0.fr 4
  have c05 := L.b0.c65
  have f05 := L.b0.fr 5
  (try go_wp2_with fail)
  refine (HB.out _).mono ?_
  rintro e w2 ⟨v2, rfl, id, be⟩
  clear c00 f00 c01 f01 c02 f02 c03 f03 c04 f04 c05 f05
  obtain ⟨B, d, rfl, _, in9⟩ := id.form
  replace L := (L.step be).n in9
  clear be id in9
  have c00 := L.b0.c60
  have f00 := L.b0.fr 0
  have c01 := L.b0.c61
  have f01 := L.b0.fr 1
  have c02 := L.b0.c62
  have f02 := L.b0.fr 2
  have c03 := L.b0.c63
  have f03 := L.b0.fr 3
  have c04 := L.b0.c64
  have f04 := L.b0.fr 4
  have c05 := L.b0.c65
  have f05 := L.b0.fr 5
  (try go_wp2_with fail)
  have LP := L.putI (by omega) (by first | (simp; done) | (simp; omega)) (ng m) A (zl m) c e (ng n) B (zl n) d f
  have k0 := LP.b0.c60
  have k1 := LP.b0.c61
  have k2 := LP.b0.c62
  have k3 := LP.b0.c63
  have k4 := LP.b0.c64
  have k5 := LP.b0.c65
  unfold put6 at k0 k1 k2 k3 k4 k5
  exact bodyPost_ret (v := .agg #[.bool (ng m), .slice A (zl m) c, .int .i64 e, .bool (ng n), .slice B (zl n) d, .int .i64 f]) (by simp [results, Tryz.results49, go_sem, k0, k1, k2, k3, k4, k5]) rfl ⟨_, rfl, isI_n (LP.getN (by simp)) (LP.getN (by simp)), LP.below⟩
theorem thin14_ok {m e n f : Int} {j : Nat} (hj : j ≤ 100) (lm : zl m ≤ 3) (ln : zl n ≤ 3) (he : -400 ≤ e ∧ e ≤ 300) (hf : -400 ≤ f ∧ f ≤ 300) (hd : dcm m e n f ≤ 0) (hv : Dv n f) : mkR (addS m e 1 (-(j : Int))) (min e (-(j : Int))) = 0 ∧ zl (thM m e n f j) ≤ 60 ∧ (-3000 ≤ thE m e n f j ∧ thE m e n f j ≤ 3000) ∧ zl (thN m e n f j) ≤ 60 ∧ (-3000 ≤ thF m e n f j ∧ thF m e n f j ≤ 3000) ∧ dcm m e (thN m e n f j) (thF m e n f j) ≤ 0 ∧ dq (thN m e n f j) (thF m e n f j) ≤ dq n f ∧ Dv (thN m e n f j) (thF m e n f j) := by
  have z1 : zl 1 ≤ 1 := len_le1 (show 1 < 4294967296 by omega)
  have z0 := zl_addS m e 1 (-(j : Int)) 400 (by omega) (by omega)
  have r0 : mkR (addS m e 1 (-(j : Int))) (min e (-(j : Int))) = 0 := mk_fits2 (by omega) (by omega) (by omega)
  have z2 := zl_mk (addS m e 1 (-(j : Int))) (min e (-(j : Int)))
  have b1 := mkE_at r0 (k := 60) (by omega)
  have e1 : zl (thM m e n f j) ≤ 60 := by unfold thM; omega
  have e2 : -3000 ≤ thE m e n f j ∧ thE m e n f j ≤ 3000 := by unfold thE; omega
  have d1 : dq (thM m e n f j) (thE m e n f j) = dq m e + dq 1 (-(j : Int)) := (dq_mk r0).trans (dq_add _ _ _ _)
  have d2 : dq m e ≤ dq (thM m e n f j) (thE m e n f j) := by
    rw [d1]
    have h := (Rat.add_le_add_left (c := dq m e)).2 (Rat.le_of_lt (dq_pos (-(j : Int))))
    rwa [Rat.add_zero] at h
  have v1 : Dv (thM m e n f j) (thE m e n f j) := mk_ok r0
  refine ⟨r0, e1, e2, ?_⟩
  unfold thN thF
  split
  · rename_i hlt
    exact ⟨e1, e2, (dcm_le _ _ _ _).2 d2, Rat.le_of_lt ((dcm_lt _ _ _ _).1 hlt), v1⟩
  · exact ⟨by omega, by omega, hd, Rat.le_refl, hv⟩
set_option maxHeartbeats 8000000 in
theorem thin14_any (m e n f : Int) (j : Nat) (hj : j ≤ 100) (vx : Value) (w : World) (hx : IsI w vx m e n f) (lm : zl m ≤ 3) (ln : zl n ≤ 3) (he : -400 ≤ e ∧ e ≤ 300) (hf : -400 ≤ f ∧ f ≤ 300) (hd : dcm m e n f ≤ 0) (hv : Dv n f) :
    Calls Tryz.prog 12 #[vx, .int .i64 (j : Int)] w (RetI6 w m e (thN m e n f j) (thF m e n f j)) := by
  obtain ⟨A, c, B, d, rfl, hn1, hn2⟩ := hx.form
  have L0 := ((Lq.mk0 w).n hn2).n hn1
  obtain ⟨r0, zM, bE, _⟩ := thin14_ok (j := j) hj lm ln he hf hd hv
  obtain ⟨o1, o2, o3⟩ := mk_one j hj
  have z1 : zl 1 ≤ 6 := zl_small (by decide)
  have g1 := fun W => rzof_any 1 W (by omega) (by omega)
  have g2 := fun v W h => rmake8_any 1 (-(j : Int)) v W h (by omega)
  rw [o1, o2, o3] at g2
  have g3 := fun v u W h1 h2 => radd8_any m e 1 (-(j : Int)) v u W h1 h2 (by omega) (by omega) (by omega) (by omega)
  rw [r0] at g3
  unfold thN thF
  unfold thM thE at *
  obtain ⟨M, hM⟩ : ∃ z, mkM (addS m e 1 (-(j : Int))) (min e (-(j : Int))) = z := ⟨_, rfl⟩
  obtain ⟨E, hE⟩ : ∃ z, mkE (addS m e 1 (-(j : Int))) (min e (-(j : Int))) = z := ⟨_, rfl⟩
  rw [hM, hE] at g3 ⊢
  rw [hM] at zM
  rw [hE] at bE
  have g4 := fun v u W h1 h2 => rcmp8_any M E n f v u W h1 h2 (by omega) (by omega) (by omega) (by omega)
  obtain ⟨x, hx9⟩ : ∃ z, dcm M E n f = z := ⟨_, rfl⟩
  rw [hx9]
  unfold dcm at hx9
  rw [hx9] at g4
  have hw : IntKind.i64.wrap (-(j : Int)) = -(j : Int) := by rw [IntKind.wrap_i64]; omega
  obtain ⟨jj, hjj⟩ : ∃ z, -(j : Int) = z := ⟨_, rfl⟩
  rw [hjj] at g2 g3
  replace hw : IntKind.i64.wrap (-(j : Int)) = jj := hw.trans hjj
  have G1 := Lib.hid g1
  have G2 := Lib.hid g2
  have G3 := Lib.hid g3
  have G4 := Lib.hid g4
  clear g1 g2 g3 g4 hM hE hx9 r0 zM bE o1 o2 o3 z1 hx hn1 hn2 lm ln he hf hd hv hj hjj
  by_cases q : x < 0
  · rw [if_pos q, if_pos q]
    have b1 : decide (x < 0) = true := decide_eq_true q
    clear q
    go_enter Tryz.func12, Tryz.ntmps12
    go_wp2_with fail
    have L := ((L0.varI (w.heap.size) (by simp) (ng m) A (zl m) c e (ng n) B (zl n) d f).varI (w.heap.size + 1) (by simp) false none 0 0 0 false none 0 0 0)
    have c00 := L.b0.c60
    have c01 := L.b0.c61
    have c02 := L.b0.c62
    have c03 := L.b0.c63
    have c04 := L.b0.c64
    have c05 := L.b0.c65
    have c10 := L.tl.b0.c60
    have c11 := L.tl.b0.c61
    have c12 := L.tl.b0.c62
    have c13 := L.tl.b0.c63
    have c14 := L.tl.b0.c64
    have c15 := L.tl.b0.c65
    (try go_wp2_with fail)
    refine (G1.out _).mono ?_
    rintro e w1 ⟨vv, rfl, iz, be⟩
    clear c00 c01 c02 c03 c04 c05 c10 c11 c12 c13 c14 c15
    replace L := (L.step be).z iz
    clear be iz
    have c00 := L.b0.c60
    have c01 := L.b0.c61
    have c02 := L.b0.c62
    have c03 := L.b0.c63
    have c04 := L.b0.c64
    have c05 := L.b0.c65
    have c10 := L.tl.b0.c60
    have c11 := L.tl.b0.c61
    have c12 := L.tl.b0.c62
    have c13 := L.tl.b0.c63
    have c14 := L.tl.b0.c64
    have c15 := L.tl.b0.c65
    (try go_wp2_with fail)
    refine (G2.out _ _ (L.getZ (by simp))).mono ?_
    rintro e w2 ⟨vv, rfl, id, be⟩
    clear c00 c01 c02 c03 c04 c05 c10 c11 c12 c13 c14 c15
    obtain ⟨A7, c7, rfl, _, in9⟩ := id.form
    replace L := (L.step be).n in9
    clear be id in9
    have hl7 := L.b0.lt
    replace L := L.varD w2.heap.size rfl (ng 1) A7 (zl 1) c7 jj
    have c00 := L.b0.c30
    have c01 := L.b0.c31
    have c02 := L.b0.c32
    have c20 := L.tl.tl.b0.c60
    have c21 := L.tl.tl.b0.c61
    have c22 := L.tl.tl.b0.c62
    have c23 := L.tl.tl.b0.c63
    have c24 := L.tl.tl.b0.c64
    have c25 := L.tl.tl.b0.c65
    go_wp2_with fail
    obtain ⟨gs, hg⟩ : ∃ g, w2.heap.size = g := ⟨_, rfl⟩
    rw [hg] at L hl7 c00 c01 c02 ⊢
    clear hg
    refine (G3.out _ _ _ (isD_n (m := m) (e := e) (s := .slice A (zl m) c) (L.getN (v := .slice A (zl m) c) (x := (m).natAbs) (by simp))) (isD_n (m := 1) (e := jj) (s := .slice A7 (zl 1) c7) (L.getN (by simp)))).mono ?_
    rintro e w3 ⟨vv, rfl, id, be⟩
    clear c00 c01 c02 c20 c21 c22 c23 c24 c25
    obtain ⟨A9, c9, rfl, _, in9⟩ := id.form
    replace L := (L.step be).n in9
    clear be id in9
    have hl9 := L.b0.lt
    replace L := L.varD w3.heap.size rfl (ng M) A9 (zl M) c9 E
    have c00 := L.b0.c30
    have c01 := L.b0.c31
    have c02 := L.b0.c32
    have c30 := L.tl.tl.tl.b0.c60
    have c31 := L.tl.tl.tl.b0.c61
    have c32 := L.tl.tl.tl.b0.c62
    have c33 := L.tl.tl.tl.b0.c63
    have c34 := L.tl.tl.tl.b0.c64
    have c35 := L.tl.tl.tl.b0.c65
    go_wp2_with fail
    obtain ⟨gh, hg⟩ : ∃ g, w3.heap.size = g := ⟨_, rfl⟩
    rw [hg] at L hl9 c00 c01 c02 ⊢
    clear hg
    refine (G4.out _ _ _ (isD_n (m := M) (e := E) (s := .slice A9 (zl M) c9) (L.getN (by simp))) (isD_n (m := n) (e := f) (s := .slice B (zl n) d) (L.getN (v := .slice B (zl n) d) (x := (n).natAbs) (by simp)))).mono ?_
    rintro e w4 ⟨rfl, be⟩
    clear c00 c01 c02 c30 c31 c32 c33 c34 c35
    replace L := L.step be
    clear be
    have hgs : w.heap.size + 1 < gs := by omega
    have hgh : gs < gh := by omega
    have c00 := L.b0.c30
    have c01 := L.b0.c31
    have c02 := L.b0.c32
    have P := L.pick [(w.heap.size, 28, #[.bool (ng m), .slice A (zl m) c, .int .i64 e, .bool (ng n), .slice B (zl n) d, .int .i64 f]), (w.heap.size + 1, 28, #[.bool false, .slice none 0 0, .int .i64 0, .bool false, .slice none 0 0, .int .i64 0])] (by simp)
    have x0 := P.b0.c60
    have y0 := P.b0.fr 0
    have u0 := P.tl.b0.c60
    have v0 := P.tl.b0.fr 0
    have x1 := P.b0.c61
    have y1 := P.b0.fr 1
    have u1 := P.tl.b0.c61
    have v1 := P.tl.b0.fr 1
    have x2 := P.b0.c62
    have y2 := P.b0.fr 2
    have u2 := P.tl.b0.c62
    have v2 := P.tl.b0.fr 2
    have x3 := P.b0.c63
    have y3 := P.b0.fr 3
    have u3 := P.tl.b0.c63
    have v3 := P.tl.b0.fr 3
    have x4 := P.b0.c64
    have y4 := P.b0.fr 4
    have u4 := P.tl.b0.c64
    have v4 := P.tl.b0.fr 4
    have x5 := P.b0.c65
    have y5 := P.b0.fr 5
    have u5 := P.tl.b0.c65
    have v5 := P.tl.b0.fr 5
    have LS : Lq _ _ _ _ _ ((w.heap.size, 28, #[.bool (ng m), .slice A (zl m) c, .int .i64 e, .bool (ng M), .slice A9 (zl M) c9, .int .i64 E]) :: _) := ((P.set (Nat.le_refl _) (by simp) 3 (.bool (ng M)) (by intro x e; cases e)).set (Nat.le_refl _) (by simp) 4 (.slice A9 (zl M) c9) (by intro x e; cases e)).set (Nat.le_refl _) (by simp) 5 (.int .i64 E) (by intro x e; cases e)
    have s0 := LS.b0.c60
    have t0 := LS.tl.b0.c60
    have p0 := LS.tl.b0.fr 0
    have s1 := LS.b0.c61
    have t1 := LS.tl.b0.c61
    have p1 := LS.tl.b0.fr 1
    have s2 := LS.b0.c62
    have t2 := LS.tl.b0.c62
    have p2 := LS.tl.b0.fr 2
    have s3 := LS.b0.c63
    have t3 := LS.tl.b0.c63
    have p3 := LS.tl.b0.fr 3
    have s4 := LS.b0.c64
    have t4 := LS.tl.b0.c64
    have p4 := LS.tl.b0.fr 4
    have s5 := LS.b0.c65
    have t5 := LS.tl.b0.c65
    have p5 := LS.tl.b0.fr 5
    go_wp2_with fail
    clear s0 t0 p0 x0 y0 u0 v0 s1 t1 p1 x1 y1 u1 v1 s2 t2 p2 x2 y2 u2 v2 s3 t3 p3 x3 y3 u3 v3 s4 t4 p4 x4 y4 u4 v4 s5 t5 p5 x5 y5 u5 v5
    replace L := LS.swap
    clear LS P
    clear c00 c01 c02
    have LP := L.putI (by omega) (by first | (simp; done) | (simp; omega)) (ng m) A (zl m) c e (ng M) A9 (zl M) c9 E
    have k0 := LP.b0.c60
    have k1 := LP.b0.c61
    have k2 := LP.b0.c62
    have k3 := LP.b0.c63
    have k4 := LP.b0.c64
    have k5 := LP.b0.c65
    unfold put6 at k0 k1 k2 k3 k4 k5
    exact bodyPost_ret (v := .agg #[.bool (ng m), .slice A (zl m) c, .int .i64 e, .bool (ng M), .slice A9 (zl M) c9, .int .i64 E]) (by simp [results, Tryz.results12, go_sem, k0, k1, k2, k3, k4, k5]) rfl ⟨_, rfl, isI_n (LP.getN (by simp)) (LP.getN (by simp)), LP.below⟩
  · rw [if_neg q, if_neg q]
    have b1 : decide (x < 0) = false := decide_eq_false q
    clear q
    go_enter Tryz.func12, Tryz.ntmps12
    go_wp2_with fail
    have L := ((L0.varI (w.heap.size) (by simp) (ng m) A (zl m) c e (ng n) B (zl n) d f).varI (w.heap.size + 1) (by simp) false none 0 0 0 false none 0 0 0)
    have c00 := L.b0.c60
    have c01 := L.b0.c61
    have c02 := L.b0.c62
    have c03 := L.b0.c63
    have c04 := L.b0.c64
    have c05 := L.b0.c65
    have c10 := L.tl.b0.c60
    have c11 := L.tl.b0.c61
    have c12 := L.tl.b0.c62
    have c13 := L.tl.b0.c63
    have c14 := L.tl.b0.c64
    have c15 := L.tl.b0.c65
    (try go_wp2_with fail)
    refine (G1.out _).mono ?_
    rintro e w1 ⟨vv, rfl, iz, be⟩
    clear c00 c01 c02 c03 c04 c05 c10 c11 c12 c13 c14 c15
    replace L := (L.step be).z iz
    clear be iz
    have c00 := L.b0.c60
    have c01 := L.b0.c61
    have c02 := L.b0.c62
    have c03 := L.b0.c63
    have c04 := L.b0.c64
    have c05 := L.b0.c65
    have c10 := L.tl.b0.c60
    have c11 := L.tl.b0.c61
    have c12 := L.tl.b0.c62
    have c13 := L.tl.b0.c63
    have c14 := L.tl.b0.c64
    have c15 := L.tl.b0.c65
    (try go_wp2_with fail)
    refine (G2.out _ _ (L.getZ (by simp))).mono ?_
    rintro e w2 ⟨vv, rfl, id, be⟩
    clear c00 c01 c02 c03 c04 c05 c10 c11 c12 c13 c14 c15
    obtain ⟨A7, c7, rfl, _, in9⟩ := id.form
    replace L := (L.step be).n in9
    clear be id in9
    have hl7 := L.b0.lt
    replace L := L.varD w2.heap.size rfl (ng 1) A7 (zl 1) c7 jj
    have c00 := L.b0.c30
    have c01 := L.b0.c31
    have c02 := L.b0.c32
    have c20 := L.tl.tl.b0.c60
    have c21 := L.tl.tl.b0.c61
    have c22 := L.tl.tl.b0.c62
    have c23 := L.tl.tl.b0.c63
    have c24 := L.tl.tl.b0.c64
    have c25 := L.tl.tl.b0.c65
    go_wp2_with fail
    obtain ⟨gs, hg⟩ : ∃ g, w2.heap.size = g := ⟨_, rfl⟩
    rw [hg] at L hl7 c00 c01 c02 ⊢
    clear hg
    refine (G3.out _ _ _ (isD_n (m := m) (e := e) (s := .slice A (zl m) c) (L.getN (v := .slice A (zl m) c) (x := (m).natAbs) (by simp))) (isD_n (m := 1) (e := jj) (s := .slice A7 (zl 1) c7) (L.getN (by simp)))).mono ?_
    rintro e w3 ⟨vv, rfl, id, be⟩
    clear c00 c01 c02 c20 c21 c22 c23 c24 c25
    obtain ⟨A9, c9, rfl, _, in9⟩ := id.form
    replace L := (L.step be).n in9
    clear be id in9
    have hl9 := L.b0.lt
    replace L := L.varD w3.heap.size rfl (ng M) A9 (zl M) c9 E
    have c00 := L.b0.c30
    have c01 := L.b0.c31
    have c02 := L.b0.c32
    have c30 := L.tl.tl.tl.b0.c60
    have c31 := L.tl.tl.tl.b0.c61
    have c32 := L.tl.tl.tl.b0.c62
    have c33 := L.tl.tl.tl.b0.c63
    have c34 := L.tl.tl.tl.b0.c64
    have c35 := L.tl.tl.tl.b0.c65
    go_wp2_with fail
    obtain ⟨gh, hg⟩ : ∃ g, w3.heap.size = g := ⟨_, rfl⟩
    rw [hg] at L hl9 c00 c01 c02 ⊢
    clear hg
    refine (G4.out _ _ _ (isD_n (m := M) (e := E) (s := .slice A9 (zl M) c9) (L.getN (by simp))) (isD_n (m := n) (e := f) (s := .slice B (zl n) d) (L.getN (v := .slice B (zl n) d) (x := (n).natAbs) (by simp)))).mono ?_
    rintro e w4 ⟨rfl, be⟩
    clear c00 c01 c02 c30 c31 c32 c33 c34 c35
    replace L := L.step be
    clear be
    have hgs : w.heap.size + 1 < gs := by omega
    have hgh : gs < gh := by omega
    replace L := L.pick [(w.heap.size + 1, 28, #[.bool false, .slice none 0 0, .int .i64 0, .bool false, .slice none 0 0, .int .i64 0]), (w.heap.size, 28, #[.bool (ng m), .slice A (zl m) c, .int .i64 e, .bool (ng n), .slice B (zl n) d, .int .i64 f])] (by simp)
    have c00 := L.b0.c60
    have f00 := L.b0.fr 0
    have c01 := L.b0.c61
    have f01 := L.b0.fr 1
    have c02 := L.b0.c62
    have f02 := L.b0.fr 2
    have c03 := L.b0.c63
    have f03 := L.b0.fr 3
    have c04 := L.b0.c64
    have f04 := L.b0.fr 4
    have c05 := L.b0.c65
    have f05 := L.b0.fr 5
    have c10 := L.tl.b0.c60
    have c11 := L.tl.b0.c61
    have c12 := L.tl.b0.c62
    have c13 := L.tl.b0.c63
    have c14 := L.tl.b0.c64
    have c15 := L.tl.b0.c65
    go_wp2_with fail
    have LP := L.putI (by omega) (by first | (simp; done) | (simp; omega)) (ng m) A (zl m) c e (ng n) B (zl n) d f
    have k0 := LP.b0.c60
    have k1 := LP.b0.c61
    have k2 := LP.b0.c62
    have k3 := LP.b0.c63
    have k4 := LP.b0.c64
    have k5 := LP.b0.c65
    unfold put6 at k0 k1 k2 k3 k4 k5
    exact bodyPost_ret (v := .agg #[.bool (ng m), .slice A (zl m) c, .int .i64 e, .bool (ng n), .slice B (zl n) d, .int .i64 f]) (by simp [results, Tryz.results12, go_sem, k0, k1, k2, k3, k4, k5]) rfl ⟨_, rfl, isI_n (LP.getN (by simp)) (LP.getN (by simp)), LP.below⟩
set_option maxHeartbeats 1000000 in
theorem at14_any (m e : Int) (k : Nat) (vx : Value) (w : World) (hx : IsD w vx m e) (lm : zl m ≤ 100) (he : -10000 ≤ e ∧ e ≤ 3000) (hc : topZ m e ≤ 11 ∨ dq m e < -4000) (hk : k ≤ 1000) :
    Calls Tryz.prog 16 #[vx, .int .i64 (k : Int)] w (RetEx w (dq m e) (k + 16)) := by
  by_cases h : dq m e < -4000
  · exact s14far_any m e k vx w hx lm (by omega) h hk
  · refine s14at_any m e k vx w hx lm (by omega) (fun h9 hh => mk_fits2 (by omega) (by omega) (by omega)) ?_ (Rat.not_lt.1 h) hk
    rcases hc with hc | hc
    · exact hc
    · exact absurd hc h
/-- What Exp of a valid interval returns, as the laws use it. -/
theorem RetEp.ab {w : World} {k : Nat} {m e n f : Int} {en : Ending} {w' : World} (h : RetEp w k m e n f en w') : ∃ a b : Int, EpA k a (dq m e) ∧ EpB k b (dq n f) ∧ RetIE w (mkM a (-(k : Int))) (mkE a (-(k : Int))) (mkM b (-(k : Int))) (mkE b (-(k : Int))) 0 en w' := by
  obtain ⟨a, b, h1, h2, h3⟩ := h
  exact ⟨a, b, h1, h2, h3⟩
theorem RetEx.ab {w : World} {x : Rat} {j : Nat} {en : Ending} {w' : World} (h : RetEx w x j en w') : ∃ a b : Int, ExB j a b x ∧ RetI6 w (mkM a (-(j : Int))) (mkE a (-(j : Int))) (mkM b (-(j : Int))) (mkE b (-(j : Int))) en w' := by
  obtain ⟨a, b, h1, h2⟩ := h
  exact ⟨a, b, h2, h1⟩
theorem small14 {m e n f : Int} (lm : zl m ≤ 60) (ln : zl n ≤ 60) (he : -8000 ≤ e ∧ e ≤ 3000) (hf : -8000 ≤ f ∧ f ≤ 3000) (hle : dcm m e n f ≤ 0) (tm : topZ m e ≤ 2048) (tn : topZ n f ≤ 2048) : smallB m e n f = true := by
  have p8 : permB 8192 = true := by decide
  unfold smallB onB
  rw [p8, decide_eq_true hle, decide_eq_true tm, decide_eq_true tn, decide_eq_true (show -8192 ≤ e by omega), decide_eq_true (show -8192 ≤ f by omega)]
  simp


set_option maxHeartbeats 8000000 in
theorem i10out_yes (m e n f p : Int) (vx : Value) (w : World) (hx : IsI w vx m e n f) (lm : zl m ≤ 1000) (ln : zl n ≤ 1000) (he : -20000 ≤ e ∧ e ≤ 20000) (hf : -20000 ≤ f ∧ f ≤ 20000) (hp1 : -9223372036854775808 ≤ p) (hp2 : p ≤ 9223372036854775807) (hp : permB p = true) (r1 : mkR (cutQ (dq m e) p) (-p) = 0) (r2 : mkR (-(cutQ (-(dq n f)) p)) (-p) = 0) (hT : Tab w) :
    Calls Tryz.prog 63 #[vx, .int .i64 p] w (RetIE w (mkM (cutQ (dq m e) p) (-p)) (mkE (cutQ (dq m e) p) (-p)) (mkM (-(cutQ (-(dq n f)) p)) (-p)) (mkE (-(cutQ (-(dq n f)) p)) (-p)) 0) := by
  obtain ⟨A, c, B, d, rfl, hn1, hn2⟩ := hx.form
  have L0 := ((Lq.mk0 w).n hn2).n hn1
  have h1 := fun v W h (hW : Below w.heap.size w W) => gfloor_any m e p v W h (by omega) (by omega) hp1 hp2 (hT.mono hW)
  have h2 := fun v W h (hW : Below w.heap.size w W) => gceil_any n f p v W h (by omega) (by omega) hp1 hp2 (hT.mono hW)
  rw [(g_yes hp (cutQ (dq m e) p)).1, (g_yes hp (cutQ (dq m e) p)).2.1, (g_yes hp (cutQ (dq m e) p)).2.2] at h1
  rw [(g_yes hp (-(cutQ (-(dq n f)) p))).1, (g_yes hp (-(cutQ (-(dq n f)) p))).2.1, (g_yes hp (-(cutQ (-(dq n f)) p))).2.2] at h2
  rw [r1] at h1
  rw [r2] at h2
  generalize mkM (cutQ (dq m e) p) (-p) = M at *
  generalize mkE (cutQ (dq m e) p) (-p) = E at *
  generalize mkM (-(cutQ (-(dq n f)) p)) (-p) = N at *
  generalize mkE (-(cutQ (-(dq n f)) p)) (-p) = G at *
  have H1 := Lib.hid h1
  have H2 := Lib.hid h2
  clear h1 h2 hx hn1 hn2 lm ln he hf hp1 hp2 hp hT r1 r2
  go_enter Tryz.func63, Tryz.ntmps63
  go_wp2_with fail
  have L := ((L0.varI (w.heap.size) (by simp) (ng m) A (zl m) c e (ng n) B (zl n) d f).varI (w.heap.size + 1) (by simp) false none 0 0 0 false none 0 0 0)
  have c00 := L.b0.c60
  have f00 := L.b0.fr 0
  have c01 := L.b0.c61
  have f01 := L.b0.fr 1
  have c02 := L.b0.c62
  have f02 := L.b0.fr 2
  have c03 := L.b0.c63
  have f03 := L.b0.fr 3
  have c04 := L.b0.c64
  have f04 := L.b0.fr 4
  have c05 := L.b0.c65
  have f05 := L.b0.fr 5
  have c10 := L.tl.b0.c60
  have c11 := L.tl.b0.c61
  have c12 := L.tl.b0.c62
  have c13 := L.tl.b0.c63
  have c14 := L.tl.b0.c64
  have c15 := L.tl.b0.c65
  (try go_wp2_with fail)
  refine (H1.out _ _ (isD_n (m := m) (e := e) (s := .slice A (zl m) c) (L.getN (v := .slice A (zl m) c) (x := (m).natAbs) (by simp))) L.below).mono ?_
  rintro e w1 ⟨vv, rfl, id, be⟩
  clear c00 f00 c01 f01 c02 f02 c03 f03 c04 f04 c05 f05 c10 c11 c12 c13 c14 c15
  obtain ⟨A8, c8, rfl, _, in9⟩ := id.form
  replace L := (L.step be).n in9
  clear be id in9
  have hlg := L.b0.lt
  replace L := L.varD w1.heap.size rfl (ng M) A8 (zl M) c8 E
  have c00 := L.b0.c30
  have c01 := L.b0.c31
  have c02 := L.b0.c32
  have c20 := L.tl.tl.b0.c60
  have c21 := L.tl.tl.b0.c61
  have c22 := L.tl.tl.b0.c62
  have c23 := L.tl.tl.b0.c63
  have c24 := L.tl.tl.b0.c64
  have c25 := L.tl.tl.b0.c65
  go_wp2_with fail
  obtain ⟨g, hg⟩ : ∃ g, w1.heap.size = g := ⟨_, rfl⟩
  rw [hg] at L hlg c00 c01 c02 ⊢
  clear hg
  refine (H2.out _ _ (isD_n (m := n) (e := f) (s := .slice B (zl n) d) (L.getN (v := .slice B (zl n) d) (x := (n).natAbs) (by simp))) L.below).mono ?_
  rintro e w2 ⟨vv, rfl, id, be⟩
  clear c00 c01 c02 c20 c21 c22 c23 c24 c25
  obtain ⟨A9, c9, rfl, _, in9⟩ := id.form
  replace L := (L.step be).n in9
  clear be id in9
  have hlk9 := L.b0.lt
  replace L := L.varD w2.heap.size rfl (ng N) A9 (zl N) c9 G
  have n1 : w.heap.size + 1 ≠ g := by omega
  have n2 : w.heap.size + 1 ≠ w2.heap.size := by omega
  replace L := L.pull2
  have c00 := L.b0.c60
  have f00 := L.b0.fr 0
  have c01 := L.b0.c61
  have f01 := L.b0.fr 1
  have c02 := L.b0.c62
  have f02 := L.b0.fr 2
  have c03 := L.b0.c63
  have f03 := L.b0.fr 3
  have c04 := L.b0.c64
  have f04 := L.b0.fr 4
  have c05 := L.b0.c65
  have f05 := L.b0.fr 5
  have c10 := L.tl.b0.c30
  have c11 := L.tl.b0.c31
  have c12 := L.tl.b0.c32
  have c20 := L.tl.tl.b0.c30
  have c21 := L.tl.tl.b0.c31
  have c22 := L.tl.tl.b0.c32
  go_wp2_with fail
  have LP := L.putI (by omega) (by simp [n1, n2, Ne.symm n1, Ne.symm n2]) (ng M) A8 (zl M) c8 E (ng N) A9 (zl N) c9 G
  have k0 := LP.b0.c60
  have k1 := LP.b0.c61
  have k2 := LP.b0.c62
  have k3 := LP.b0.c63
  have k4 := LP.b0.c64
  have k5 := LP.b0.c65
  unfold put6 at k0 k1 k2 k3 k4 k5
  exact bodyPost_ret (v := .tuple #[.agg #[.bool (ng M), .slice A8 (zl M) c8, .int .i64 E, .bool (ng N), .slice A9 (zl N) c9, .int .i64 G], .int .i64 0]) (by simp [results, Tryz.results63, go_sem, k0, k1, k2, k3, k4, k5]) rfl ⟨_, rfl, isI_n (LP.getN (by simp)) (LP.getN (by simp)), LP.below⟩

set_option maxHeartbeats 8000000 in
theorem xexp_large (m e n f : Int) (k : Nat) (vx : Value) (w : World) (hx : IsI w vx m e n f) (lm : zl m ≤ 100) (ln : zl n ≤ 100) (he : -10000 ≤ e ∧ e ≤ 3000) (hf : -10000 ≤ f ∧ f ≤ 3000) (hv : Dv m e) (hv2 : Dv n f) (hsm : smallB m e n f = true) (hk : k ≤ 4096) (hl : ¬ dq n f ≤ 1000) (hT : Tab w) :
    Calls Tryz.prog 14 #[vx, .int .i64 (k : Int)] w (RetIE w 0 0 0 0 3) := by
  obtain ⟨A, c, B, d, rfl, hn1, hn2⟩ := hx.form
  have L0 := ((Lq.mk0 w).n hn2).n hn1
  have HP0 := fun W => xperm_any (k : Int) 0 W
  have hok : okX (k : Int) 0 = true := by
    unfold okX
    rw [decide_eq_true (show (0 : Int) ≤ (k : Int) by omega), decide_eq_true (show (k : Int) ≤ 4096 by omega)]
    rfl
  rw [hok] at HP0
  have HP := Lib.hid HP0
  have HT := Lib.hid (fun W (hW : Below w.heap.size w W) => hT.mono hW)
  have g1 := fun x W h => asmall_any m e n f x W h (by omega) (by omega) (by omega) (by omega) hv hv2
  rw [hsm] at g1
  have hb10 : AbP 1000 12 := by unfold AbP; decide
  obtain ⟨z1, z2, z3, z4, z5, z6⟩ := nf hb10 (by omega)
  rw [dq_int] at z6
  have g2 := fun W (hW : Below w.heap.size w W) => dof_any 1000 W (by omega) (by omega) (hT.mono hW)
  have g3 := fun x y W h j => dcmp_any n f (mkM 1000 0) (mkE 1000 0) x y W h j (by omega) (by omega) (by omega) (by omega)
  have hle := dcm_le n f (mkM 1000 0) (mkE 1000 0)
  rw [z6] at hle
  rw [show cmpI (n * 2 ^ (f - min f (mkE 1000 0)).toNat) (mkM 1000 0 * 2 ^ (mkE 1000 0 - min f (mkE 1000 0)).toNat) = dcm n f (mkM 1000 0) (mkE 1000 0) from rfl] at g3
  generalize dcm n f (mkM 1000 0) (mkE 1000 0) = cm at *
  generalize mkM 1000 0 = Mb at *
  generalize mkE 1000 0 = Eb at *
  have G1 := Lib.hid g1
  have G2 := Lib.hid g2
  have G3 := Lib.hid g3
  clear g1 g2 g3 z1 z2 z3 z4 z5 z6 hb10 hx HP0 hok
  have hcm : 0 < cm := by
    refine Int.not_le.1 fun h => hl (hle.1 h)
  have d1 : decide (0 < cm) = true := decide_eq_true hcm
  clear hle hl hv hv2 lm ln he hf hsm hk
  go_enter Tryz.func14, Tryz.ntmps14
  have L := ((L0.varI (w.heap.size) (by simp) (ng m) A (zl m) c e (ng n) B (zl n) d f).varI (w.heap.size + 1) (by simp) false none 0 0 0 false none 0 0 0)
  have c00 := L.b0.c60
  have f00 := L.b0.fr 0
  have c01 := L.b0.c61
  have f01 := L.b0.fr 1
  have c02 := L.b0.c62
  have f02 := L.b0.fr 2
  have c03 := L.b0.c63
  have f03 := L.b0.fr 3
  have c04 := L.b0.c64
  have f04 := L.b0.fr 4
  have c05 := L.b0.c65
  have f05 := L.b0.fr 5
  (try go_wp2_with fail)
  refine (HP.out _).mono ?_
  rintro e9 w' ⟨rfl, rfl⟩
  (try go_wp2_with fail)
  replace L := L.drew
  clear c00 f00 c01 f01 c02 f02 c03 f03 c04 f04 c05 f05
  have c10 := L.tl.b0.c60
  have c11 := L.tl.b0.c61
  have c12 := L.tl.b0.c62
  have c13 := L.tl.b0.c63
  have c14 := L.tl.b0.c64
  have c15 := L.tl.b0.c65
  go_region_held3 (fun w' => w'.cell? ⟨w.heap.size, 0, none⟩ = some (.bool (ng m)) ∧ w'.cell? ⟨w.heap.size, 1, none⟩ = some (.slice A (zl m) c) ∧ w'.cell? ⟨w.heap.size, 2, none⟩ = some (.int .i64 e) ∧ w'.cell? ⟨w.heap.size, 3, none⟩ = some (.bool (ng n)) ∧ w'.cell? ⟨w.heap.size, 4, none⟩ = some (.slice B (zl n) d) ∧ w'.cell? ⟨w.heap.size, 5, none⟩ = some (.int .i64 f)) (first | (with_reducible exact ⟨L.tl.b0.c60, L.tl.b0.c61, L.tl.b0.c62, L.tl.b0.c63, L.tl.b0.c64, L.tl.b0.c65⟩) | exact ⟨L.tl.b0.c60, L.tl.b0.c61, L.tl.b0.c62, L.tl.b0.c63, L.tl.b0.c64, L.tl.b0.c65⟩) (first | (go_at_call 55; (with_reducible refine (G1.out _ _ ?_ ).mono ?_); (· (refine isI_n (L.getN ?_) (L.getN ?_); all_goals (repeat (first | (with_reducible exact List.mem_cons_self) | apply List.mem_cons_of_mem)))); rintro e wh ⟨rfl, be⟩; replace L := L.step be; clear be) | (go_at_call 57; (with_reducible refine (G2.out _ ?_ ).mono ?_); (· exact L.below); rintro e wh ⟨vh, rfl, id, be⟩; obtain ⟨A1, c1, rfl, _, in9⟩ := id.form; replace L := (L.step be).n in9; clear be id in9) | (go_at_call 56; (with_reducible refine (G3.out _ _ _ ?_ ?_ ).mono ?_); (· (refine isD_n (L.getN ?_); (repeat (first | (with_reducible exact List.mem_cons_self) | apply List.mem_cons_of_mem)))); (· (refine isD_n (L.getN ?_); (repeat (first | (with_reducible exact List.mem_cons_self) | apply List.mem_cons_of_mem)))); rintro e wh ⟨rfl, be⟩; replace L := L.step be; clear be))
  clear c10 c11 c12 c13 c14 c15
  have c00 := L.b0.c60
  have f00 := L.b0.fr 0
  have c01 := L.b0.c61
  have f01 := L.b0.fr 1
  have c02 := L.b0.c62
  have f02 := L.b0.fr 2
  have c03 := L.b0.c63
  have f03 := L.b0.fr 3
  have c04 := L.b0.c64
  have f04 := L.b0.fr 4
  have c05 := L.b0.c65
  have f05 := L.b0.fr 5
  go_wp2_with fail
  clear c00 f00 c01 f01 c02 f02 c03 f03 c04 f04 c05 f05
  have LP := L.putI (by omega) (by first | (simp; done) | (simp; omega)) false none 0 0 0 false none 0 0 0
  have k0 := LP.b0.c60
  have k1 := LP.b0.c61
  have k2 := LP.b0.c62
  have k3 := LP.b0.c63
  have k4 := LP.b0.c64
  have k5 := LP.b0.c65
  unfold put6 at k0 k1 k2 k3 k4 k5
  exact bodyPost_ret (v := .tuple #[.agg #[.bool false, .slice none 0 0, .int .i64 0, .bool false, .slice none 0 0, .int .i64 0], .int .i64 3]) (by simp [results, Tryz.results14, go_sem, k0, k1, k2, k3, k4, k5]) rfl ⟨_, rfl, isI_zero _, LP.below⟩
set_option maxHeartbeats 16000000 in
theorem xexp_yes (m e n f : Int) (k : Nat) (vx : Value) (w : World) (hx : IsI w vx m e n f) (lm : zl m ≤ 100) (ln : zl n ≤ 100) (he : -10000 ≤ e ∧ e ≤ 3000) (hf : -10000 ≤ f ∧ f ≤ 3000) (hv : Dv m e) (hv2 : Dv n f) (hsm : smallB m e n f = true) (hk : k ≤ 220) (hl : dq n f ≤ 200) (hT : Tab w) :
    Calls Tryz.prog 14 #[vx, .int .i64 (k : Int)] w (RetEp w k m e n f) := by
  obtain ⟨A, c, B, d, rfl, hn1, hn2⟩ := hx.form
  have L0 := ((Lq.mk0 w).n hn2).n hn1
  have HP0 := fun W => xperm_any (k : Int) 0 W
  have hok : okX (k : Int) 0 = true := by
    unfold okX
    rw [decide_eq_true (show (0 : Int) ≤ (k : Int) by omega), decide_eq_true (show (k : Int) ≤ 4096 by omega)]
    rfl
  rw [hok] at HP0
  have HP := Lib.hid HP0
  have HT := Lib.hid (fun W (hW : Below w.heap.size w W) => hT.mono hW)
  have g1 := fun x W h => asmall_any m e n f x W h (by omega) (by omega) (by omega) (by omega) hv hv2
  rw [hsm] at g1
  have hb10 : AbP 1000 12 := by unfold AbP; decide
  obtain ⟨z1, z2, z3, z4, z5, z6⟩ := nf hb10 (by omega)
  rw [dq_int] at z6
  have g2 := fun W (hW : Below w.heap.size w W) => dof_any 1000 W (by omega) (by omega) (hT.mono hW)
  have g3 := fun x y W h j => dcmp_any n f (mkM 1000 0) (mkE 1000 0) x y W h j (by omega) (by omega) (by omega) (by omega)
  have hle := dcm_le n f (mkM 1000 0) (mkE 1000 0)
  rw [z6] at hle
  rw [show cmpI (n * 2 ^ (f - min f (mkE 1000 0)).toNat) (mkM 1000 0 * 2 ^ (mkE 1000 0 - min f (mkE 1000 0)).toNat) = dcm n f (mkM 1000 0) (mkE 1000 0) from rfl] at g3
  generalize dcm n f (mkM 1000 0) (mkE 1000 0) = cm at *
  generalize mkM 1000 0 = Mb at *
  generalize mkE 1000 0 = Eb at *
  have G1 := Lib.hid g1
  have G2 := Lib.hid g2
  have G3 := Lib.hid g3
  clear g1 g2 g3 z1 z2 z3 z4 z5 z6 hb10 hx HP0 hok
  have hcm : ¬ 0 < cm := by
    refine Int.not_lt.2 (hle.2 (Rat.le_trans hl ?_))
    exact_mod_cast (by omega : (200 : Int) ≤ 1000)
  have d1 : decide (0 < cm) = false := decide_eq_false hcm
  have hmn : dcm m e n f ≤ 0 := by
    unfold smallB at hsm
    rw [Bool.and_eq_true] at hsm
    exact of_decide_eq_true hsm.1
  have hlm : dq m e ≤ 200 := Rat.le_trans ((dcm_le m e n f).1 hmn) hl
  have g4 := fun x W h (hW : Below w.heap.size w W) => xpow_any m e k x W h lm he hv hlm hk (hT.mono hW)
  have g5 := fun x W h (hW : Below w.heap.size w W) => xpow_any n f k x W h ln hf hv2 hl hk (hT.mono hW)
  have g6 := fun x y W h j => dcmp_any m e n f x y W h j (by omega) (by omega) (by omega) (by omega)
  rw [show cmpI (m * 2 ^ (e - min e f).toNat) (n * 2 ^ (f - min e f).toNat) = dcm m e n f from rfl] at g6
  obtain ⟨j, hj⟩ : ∃ j : Nat, k + 20 = j := ⟨_, rfl⟩
  have hji : (j : Int) = (k : Int) + 20 := by omega
  have hpj : permB (j : Int) = true := by
    unfold permB
    rw [decide_eq_true (show (-2048 : Int) ≤ (j : Int) by omega), decide_eq_true (show (j : Int) ≤ 8192 by omega)]
    rfl
  have hpk : permB (k : Int) = true := by
    unfold permB
    rw [decide_eq_true (show (-2048 : Int) ≤ (k : Int) by omega), decide_eq_true (show (k : Int) ≤ 8192 by omega)]
    rfl
  have g7 := fun W (hW : Below w.heap.size w W) => gunit_any (j : Int) W (by omega) (by omega) (hT.mono hW)
  obtain ⟨y1, y2, y3⟩ := g_yes hpj 1
  obtain ⟨u1, u2, u3, u4, u5⟩ := np (T := 1) (j := 0) (p := j) (by unfold AbP; decide) (by omega) (by omega)
  rw [y1, y2, y3, u1] at g7
  have w1 : IntKind.i64.wrap ((k : Int) + 20) = (j : Int) := by rw [IntKind.wrap_i64]; omega
  have hjb : j ≤ 240 := by omega
  have HU := Lib.hid (And.intro u2 u3)
  have HPK := Lib.hid hpk
  have HJ := Lib.hid (And.intro hji (And.intro hjb hk))
  have HLB := Lib.hid (And.intro hlm hl)
  obtain ⟨Mu, hMu⟩ : ∃ z, mkM 1 (-(j : Int)) = z := ⟨_, rfl⟩
  obtain ⟨Eu, hEu⟩ : ∃ z, mkE 1 (-(j : Int)) = z := ⟨_, rfl⟩
  rw [hMu, hEu] at g7
  have HMU := Lib.hid (And.intro hMu hEu)
  have hcase : (dcm m e n f < 0) ∨ (m = n ∧ e = f ∧ dcm m e n f = 0) := by
    rcases Int.lt_or_le (dcm m e n f) 0 with q | q
    · exact Or.inl q
    · have q0 : dcm m e n f = 0 := by omega
      obtain ⟨a, b⟩ := (dcm_eq hv hv2).1 q0
      exact Or.inr ⟨a, b, q0⟩
  generalize dcm m e n f = cn at *
  have G4 := Lib.hid g4
  have G5 := Lib.hid g5
  have G6 := Lib.hid g6
  have G7 := Lib.hid g7
  clear g4 g5 g6 g7 hle hl hv hv2 lm ln he hf hsm y1 y2 y3 u1 u2 u3 u4 u5 hpj hpk hMu hEu hmn hlm hj hji hjb hk hT hcm
  rcases hcase with hlt | ⟨rfl, rfl, hlt⟩
  · have d2 : decide (cn < 0) = true := decide_eq_true hlt
    go_enter Tryz.func14, Tryz.ntmps14
    have L := ((L0.varI (w.heap.size) (by simp) (ng m) A (zl m) c e (ng n) B (zl n) d f).varI (w.heap.size + 1) (by simp) false none 0 0 0 false none 0 0 0)
    have c00 := L.b0.c60
    have f00 := L.b0.fr 0
    have c01 := L.b0.c61
    have f01 := L.b0.fr 1
    have c02 := L.b0.c62
    have f02 := L.b0.fr 2
    have c03 := L.b0.c63
    have f03 := L.b0.fr 3
    have c04 := L.b0.c64
    have f04 := L.b0.fr 4
    have c05 := L.b0.c65
    have f05 := L.b0.fr 5
    (try go_wp2_with fail)
    refine (HP.out _).mono ?_
    rintro e9 w' ⟨rfl, rfl⟩
    (try go_wp2_with fail)
    replace L := L.drew
    clear c00 f00 c01 f01 c02 f02 c03 f03 c04 f04 c05 f05
    have c10 := L.tl.b0.c60
    have c11 := L.tl.b0.c61
    have c12 := L.tl.b0.c62
    have c13 := L.tl.b0.c63
    have c14 := L.tl.b0.c64
    have c15 := L.tl.b0.c65
    go_region_held3 (fun w' => w'.cell? ⟨w.heap.size, 0, none⟩ = some (.bool (ng m)) ∧ w'.cell? ⟨w.heap.size, 1, none⟩ = some (.slice A (zl m) c) ∧ w'.cell? ⟨w.heap.size, 2, none⟩ = some (.int .i64 e) ∧ w'.cell? ⟨w.heap.size, 3, none⟩ = some (.bool (ng n)) ∧ w'.cell? ⟨w.heap.size, 4, none⟩ = some (.slice B (zl n) d) ∧ w'.cell? ⟨w.heap.size, 5, none⟩ = some (.int .i64 f)) (first | (with_reducible exact ⟨L.tl.b0.c60, L.tl.b0.c61, L.tl.b0.c62, L.tl.b0.c63, L.tl.b0.c64, L.tl.b0.c65⟩) | exact ⟨L.tl.b0.c60, L.tl.b0.c61, L.tl.b0.c62, L.tl.b0.c63, L.tl.b0.c64, L.tl.b0.c65⟩) (first | (go_at_call 55; (with_reducible refine (G1.out _ _ ?_ ).mono ?_); (· (refine isI_n (L.getN ?_) (L.getN ?_); all_goals (repeat (first | (with_reducible exact List.mem_cons_self) | apply List.mem_cons_of_mem)))); rintro e wh ⟨rfl, be⟩; replace L := L.step be; clear be) | (go_at_call 57; (with_reducible refine (G2.out _ ?_ ).mono ?_); (· exact L.below); rintro e wh ⟨vh, rfl, id, be⟩; obtain ⟨A1, c1, rfl, _, in9⟩ := id.form; replace L := (L.step be).n in9; clear be id in9) | (go_at_call 56; (with_reducible refine (G3.out _ _ _ ?_ ?_ ).mono ?_); (· (refine isD_n (L.getN ?_); (repeat (first | (with_reducible exact List.mem_cons_self) | apply List.mem_cons_of_mem)))); (· (refine isD_n (L.getN ?_); (repeat (first | (with_reducible exact List.mem_cons_self) | apply List.mem_cons_of_mem)))); rintro e wh ⟨rfl, be⟩; replace L := L.step be; clear be))
    clear c10 c11 c12 c13 c14 c15
    have c10 := L.tl.b0.c60
    have c11 := L.tl.b0.c61
    have c12 := L.tl.b0.c62
    have c13 := L.tl.b0.c63
    have c14 := L.tl.b0.c64
    have c15 := L.tl.b0.c65
    (try go_wp2_with fail)
    refine (G4.out _ _ (isD_n (m := m) (e := e) (s := .slice A (zl m) c) (L.getN (by simp))) L.below).mono ?_
    rintro e w1 ⟨s1, p1, hp1, hs1, hn19, hl1, hu1, v9, rfl, iz, be⟩
    clear c10 c11 c12 c13 c14 c15
    obtain ⟨A2, c2, rfl, _, in9⟩ := iz.form
    replace L := (L.step be).n in9
    clear be iz in9
    have hl9 := L.b0.lt
    obtain ⟨M1, hM1⟩ : ∃ z, mkM s1 (-(p1 : Int)) = z := ⟨_, rfl⟩
    obtain ⟨E1, hE1⟩ : ∃ z, mkE s1 (-(p1 : Int)) = z := ⟨_, rfl⟩
    rw [hM1] at L ⊢
    rw [hE1]
    have HW1 := Lib.hid (And.intro hp1 (And.intro hs1 (And.intro hl1 (And.intro hu1 (And.intro hM1 hE1)))))
    clear hp1 hs1 hn19 hl1 hu1 hM1 hE1
    replace L := L.varD w1.heap.size rfl (ng M1) A2 (zl M1) c2 E1
    have c00 := L.b0.c30
    have c01 := L.b0.c31
    have c02 := L.b0.c32
    replace L := L.varD (w1.heap.size + 1) (by simp) (ng M1) A2 (zl M1) c2 E1
    have d00 := L.tl.tl.tl.b0.c60
    have d01 := L.tl.tl.tl.b0.c61
    have d02 := L.tl.tl.tl.b0.c62
    have d03 := L.tl.tl.tl.b0.c63
    have d04 := L.tl.tl.tl.b0.c64
    have d05 := L.tl.tl.tl.b0.c65
    (try go_wp2_with fail)
    clear c00 c01 c02 d00 d01 d02 d03 d04 d05
    obtain ⟨g1, hg1⟩ : ∃ g9, w1.heap.size = g9 := ⟨_, rfl⟩
    rw [hg1] at L hl9 ⊢
    clear hg1
    have hl_g1 := hl9
    clear hl9
    refine (G6.out _ _ _ (isD_n (m := m) (e := e) (s := .slice A (zl m) c) (L.getN (by simp))) (isD_n (m := n) (e := f) (s := .slice B (zl n) d) (L.getN (by simp)))).mono ?_
    rintro e w2 ⟨rfl, be⟩
    replace L := L.step be
    clear be
    have c30 := L.tl.tl.tl.b0.c60
    have c31 := L.tl.tl.tl.b0.c61
    have c32 := L.tl.tl.tl.b0.c62
    have c33 := L.tl.tl.tl.b0.c63
    have c34 := L.tl.tl.tl.b0.c64
    have c35 := L.tl.tl.tl.b0.c65
    (try go_wp2_with fail)
    refine (G5.out _ _ (isD_n (m := n) (e := f) (s := .slice B (zl n) d) (L.getN (by simp))) L.below).mono ?_
    rintro e w3 ⟨s2, p2, hp2, hs2, hn29, hl2, hu2, v9, rfl, iz, be⟩
    clear c30 c31 c32 c33 c34 c35
    obtain ⟨A3, c3, rfl, _, in9⟩ := iz.form
    replace L := (L.step be).n in9
    clear be iz in9
    obtain ⟨M2, hM2⟩ : ∃ z, mkM s2 (-(p2 : Int)) = z := ⟨_, rfl⟩
    obtain ⟨E2, hE2⟩ : ∃ z, mkE s2 (-(p2 : Int)) = z := ⟨_, rfl⟩
    rw [hM2] at L ⊢
    rw [hE2]
    have HW2 := Lib.hid (And.intro hp2 (And.intro hs2 (And.intro hl2 (And.intro hu2 (And.intro hM2 hE2)))))
    clear hp2 hs2 hn29 hl2 hu2 hM2 hE2
    have c00 := L.b0.c30
    have f00 := L.b0.fr 0
    have c01 := L.b0.c31
    have f01 := L.b0.fr 1
    have c02 := L.b0.c32
    have f02 := L.b0.fr 2
    have P := L.putD (by omega) (by simp; omega) (ng M2) A3 (zl M2) c3 E2
    unfold put3 at P
    (try go_wp2_with fail)
    replace L := P
    clear P
    clear c00 f00 c01 f01 c02 f02
    refine (G7.out _ L.below).mono ?_
    rintro e w4 ⟨v9, rfl, iz, be⟩
    obtain ⟨A4, c4, rfl, _, in9⟩ := iz.form
    replace L := (L.step be).n in9
    clear be iz in9
    have hl9 := L.b0.lt
    replace L := L.varD w4.heap.size rfl (ng Mu) A4 (zl Mu) c4 Eu
    have c00 := L.b0.c30
    have c01 := L.b0.c31
    have c02 := L.b0.c32
    have c20 := L.tl.tl.b0.c30
    have c21 := L.tl.tl.b0.c31
    have c22 := L.tl.tl.b0.c32
    go_wp2_with fail
    clear c00 c01 c02 c20 c21 c22
    obtain ⟨gm, hgm⟩ : ∃ g9, w4.heap.size = g9 := ⟨_, rfl⟩
    rw [hgm] at L hl9 ⊢
    clear hgm
    have hl_gm := hl9
    clear hl9
    obtain ⟨hj1, hj2, hk⟩ := HJ.out
    obtain ⟨hmu, heu⟩ := HMU.out
    obtain ⟨zu, eu⟩ := HU.out
    rw [hmu] at zu
    rw [heu] at eu
    obtain ⟨hp1, hs1, hl1, hu1, hM1, hE1⟩ := HW1.out
    obtain ⟨hp2, hs2, hl2, hu2, hM2, hE2⟩ := HW2.out
    obtain ⟨q1, q2, q3, _, _⟩ := np hs1 (by omega) (show p1 ≤ 3000 by omega)
    rw [hM1] at q2
    rw [hE1] at q3
    obtain ⟨ML, hML⟩ : ∃ z, mkM (addS M1 E1 (-Mu) Eu) (min E1 Eu) = z := ⟨_, rfl⟩
    obtain ⟨EL, hEL⟩ : ∃ z, mkE (addS M1 E1 (-Mu) Eu) (min E1 Eu) = z := ⟨_, rfl⟩
    obtain ⟨l1, l2, l3, l4, l5⟩ := ep_sum (-1) hs1 hp1 (show j ≤ 300 by omega) (Or.inr rfl) ML EL (by rw [hM1, hE1, hmu, heu, Int.neg_mul, Int.one_mul]; exact hML) (by rw [hM1, hE1, hmu, heu, Int.neg_mul, Int.one_mul]; exact hEL)
    rw [hM1, hE1, hmu, heu, Int.neg_mul, Int.one_mul] at l1
    have g8 := fun x y W h i (hW : Below w.heap.size w W) => dsub_any M1 E1 Mu Eu x y W h i (by omega) (by omega) (by omega) (by omega) (HT.out W hW)
    rw [l1, hML, hEL] at g8
    obtain ⟨r1, r2, r3, _, _⟩ := np hs2 (by omega) (show p2 ≤ 3000 by omega)
    rw [hM2] at r2
    rw [hE2] at r3
    obtain ⟨MH, hMH⟩ : ∃ z, mkM (addS M2 E2 Mu Eu) (min E2 Eu) = z := ⟨_, rfl⟩
    obtain ⟨EH, hEH⟩ : ∃ z, mkE (addS M2 E2 Mu Eu) (min E2 Eu) = z := ⟨_, rfl⟩
    obtain ⟨h1, h2, h3, h4, h5⟩ := ep_sum 1 hs2 hp2 (show j ≤ 300 by omega) (Or.inl rfl) MH EH (by rw [hM2, hE2, hmu, heu, Int.one_mul]; exact hMH) (by rw [hM2, hE2, hmu, heu, Int.one_mul]; exact hEH)
    rw [hM2, hE2, hmu, heu, Int.one_mul] at h1
    have g9 := fun x y W h i (hW : Below w.heap.size w W) => dadd_any M2 E2 Mu Eu x y W h i (by omega) (by omega) (by omega) (by omega) (HT.out W hW)
    rw [h1, hMH, hEH] at g9
    rw [hj1, show ((-1 : Int) : Rat) = -1 from rfl] at l2
    rw [hj1, show ((1 : Int) : Rat) = 1 from rfl] at h2
    have HL := Lib.hid (And.intro l2 (And.intro l3 (And.intro l4 l5)))
    have HH := Lib.hid (And.intro h2 (And.intro h3 h4))
    have G8 := Lib.hid g8
    have G9 := Lib.hid g9
    have g10 := fun x W h => dsign_any ML EL x W h (by omega)
    have G10 := Lib.hid g10
    clear g8 g9 g10 l1 l2 l3 l4 l5 h1 h2 h3 h4 h5 q1 q2 q3 zu eu hmu heu hj1 hj2 hk hML hEL hMH hEH hp1 hs1 hl1 hu1 hM1 hE1 hp2 hs2 hl2 hu2 hM2 hE2 r1 r2 r3
    refine (G8.out _ _ _ (isD_n (m := M1) (e := E1) (s := .slice A2 (zl M1) c2) (L.getN (by simp))) (isD_n (m := Mu) (e := Eu) (s := .slice A4 (zl Mu) c4) (L.getN (by simp))) L.below).mono ?_
    rintro e w5 ⟨v9, rfl, iz, be⟩
    obtain ⟨A5, c5, rfl, _, in9⟩ := iz.form
    replace L := (L.step be).n in9
    clear be iz in9
    have hl9 := L.b0.lt
    replace L := L.varD w5.heap.size rfl (ng ML) A5 (zl ML) c5 EL
    have c10 := L.tl.b0.c30
    have c11 := L.tl.b0.c31
    have c12 := L.tl.b0.c32
    have c20 := L.tl.tl.b0.c30
    have c21 := L.tl.tl.b0.c31
    have c22 := L.tl.tl.b0.c32
    go_wp2_with fail
    clear c10 c11 c12 c20 c21 c22
    obtain ⟨gl, hgl⟩ : ∃ g9, w5.heap.size = g9 := ⟨_, rfl⟩
    rw [hgl] at L hl9 ⊢
    clear hgl
    have hl_gl := hl9
    clear hl9
    refine (G9.out _ _ _ (isD_n (m := M2) (e := E2) (s := .slice A3 (zl M2) c3) (L.getN (by simp))) (isD_n (m := Mu) (e := Eu) (s := .slice A4 (zl Mu) c4) (L.getN (by simp))) L.below).mono ?_
    rintro e w6 ⟨v9, rfl, iz, be⟩
    obtain ⟨A6, c6, rfl, _, in9⟩ := iz.form
    replace L := (L.step be).n in9
    clear be iz in9
    have hl9 := L.b0.lt
    replace L := L.varD w6.heap.size rfl (ng MH) A6 (zl MH) c6 EH
    have c10 := L.tl.b0.c30
    have c11 := L.tl.b0.c31
    have c12 := L.tl.b0.c32
    go_wp2_with fail
    clear c10 c11 c12
    obtain ⟨gh, hgh⟩ : ∃ g9, w6.heap.size = g9 := ⟨_, rfl⟩
    rw [hgh] at L hl9 ⊢
    clear hgh
    have hl_gh := hl9
    clear hl9
    refine (G10.out _ _ (isD_n (m := ML) (e := EL) (s := .slice A5 (zl ML) c5) (L.getN (by simp)))).mono ?_
    rintro e w7 ⟨rfl, be⟩
    replace L := L.step be
    clear be
    have L9 := L.subx (ns' := [(.slice A5 (zl ML) c5, ML.natAbs), (.slice A6 (zl MH) c6, MH.natAbs)]) (bs' := [(gl, 26, #[.bool (ng ML), .slice A5 (zl ML) c5, .int .i64 EL]), (gh, 26, #[.bool (ng MH), .slice A6 (zl MH) c6, .int .i64 EH]), (w.heap.size + 1, 28, #[.bool false, .slice none 0 0, .int .i64 0, .bool false, .slice none 0 0, .int .i64 0])]) (by simp) (by simp)
    clear L
    have L := L9
    clear L9
    obtain ⟨l2, l3, l4, l5⟩ := HL.out
    obtain ⟨h2, h3, h4⟩ := HH.out
    obtain ⟨hj1, hj2, hk⟩ := HJ.out
    obtain ⟨hp1, hs1, hl1, hu1, hM1, hE1⟩ := HW1.out
    obtain ⟨hp2, hs2, hl2, hu2, hM2, hE2⟩ := HW2.out
    have n1 : gl ≠ gh := by omega
    have n2 : w.heap.size + 1 ≠ gh := by omega
    have n3 : w.heap.size + 1 ≠ gl := by omega
    have eb := ep_hi hl2 hu2 HLB.out.2
    have h2' : dq MH EH = dq s2 (-(p2 : Int)) + dq 1 (-((k : Int) + 20)) := by rw [h2, Rat.one_mul]
    rw [← h2'] at eb
    obtain ⟨b, hb⟩ : ∃ z, -(cutQ (-(dq MH EH)) (k : Int)) = z := ⟨_, rfl⟩
    rw [hb] at eb
    obtain ⟨b1, _⟩ := np eb.1 (by omega) (show k ≤ 3000 by omega)
    have l2' : dq ML EL = dq s1 (-(p1 : Int)) - dq 1 (-((k : Int) + 20)) := by rw [l2, Rat.sub_eq_add_neg, Rat.neg_mul, Rat.one_mul]
    clear l2 h2 h2'
    rcases Int.lt_or_le ML 0 with hneg | hneg
    · have d3 : decide (cmpI ML 0 < 0) = true := decide_eq_true (by rw [cmpI_lt hneg]; omega)
      have hz := (dq_le_iff 0 ML EL)
      rw [dq_zero] at hz
      have hq : dq ML EL < 0 := Rat.not_le.1 fun h => by have := hz.1 h; omega
      rw [l2'] at hq
      have ea := ep_lo (Q := dq 0 0) hl1 hu1 HLB.out.1 (Or.inl ⟨dq_zero 0, hq⟩)
      obtain ⟨a, ha⟩ : ∃ z, cutQ (dq 0 0) (k : Int) = z := ⟨_, rfl⟩
      rw [ha] at ea
      obtain ⟨a1, _⟩ := np ea.2.1 (by omega) (show k ≤ 3000 by omega)
      have g11 := fun x W h (hW : Below w.heap.size w W) => i10out_yes 0 0 MH EH (k : Int) x W h (by rw [show zl 0 = 0 from len_zero]; omega) (by omega) (by omega) (by omega) (by omega) (by omega) HPK.out (by rw [ha]; exact a1) (by rw [hb]; exact b1) (HT.out W hW)
      rw [ha, hb] at g11
      obtain ⟨Ma, hMa⟩ : ∃ z, mkM a (-(k : Int)) = z := ⟨_, rfl⟩
      obtain ⟨Ea, hEa⟩ : ∃ z, mkE a (-(k : Int)) = z := ⟨_, rfl⟩
      obtain ⟨Nb, hNb⟩ : ∃ z, mkM b (-(k : Int)) = z := ⟨_, rfl⟩
      obtain ⟨Fb, hFb⟩ : ∃ z, mkE b (-(k : Int)) = z := ⟨_, rfl⟩
      rw [hMa, hEa, hNb, hFb] at g11
      have G11 := Lib.hid g11
      have HR := Lib.hid (And.intro ea (And.intro eb (And.intro (And.intro hMa hEa) (And.intro hNb hFb))))
      clear g11 ea eb hMa hEa hNb hFb ha hb a1 b1 hz hq hneg hl1 hu1 hs1 hM1 hE1 l2' l3 l4 l5 h3 h4 hp1 hj1 hj2 hk hl2 hu2 hs2 hM2 hE2 hp2
      have c00 := L.b0.c30
      have f00 := L.b0.fr 0
      have c01 := L.b0.c31
      have f01 := L.b0.fr 1
      have c02 := L.b0.c32
      have f02 := L.b0.fr 2
      have c10 := L.tl.b0.c30
      have c11 := L.tl.b0.c31
      have c12 := L.tl.b0.c32
      have P := L.putD (by omega) (by simp [n1, n2, n3, Ne.symm n1, Ne.symm n2, Ne.symm n3]) false none 0 0 0
      have p00 := P.b0.c30
      have p01 := P.b0.c31
      have p02 := P.b0.c32
      have p03 := P.tl.b0.c30
      have p04 := P.tl.b0.c31
      have p05 := P.tl.b0.c32
      unfold put3 at p00 p01 p02 p03 p04 p05 P
      (try go_wp2_with fail)
      replace L := P
      clear P p00 p01 p02 p03 p04 p05
      clear c00 f00 c01 f01 c02 f02 c10 c11 c12
      refine (G11.out _ _ ⟨.slice none 0 0, .slice A6 (zl MH) c6, by simp [ng], IsN.zero _, L.getN (by simp)⟩ L.below).mono ?_
      rintro e w8 ⟨v2, rfl, ii, be⟩
      obtain ⟨A8, c8, B8, d8, rfl, ia, ib⟩ := ii.form
      replace L := (((L.step be).n ib).n ia).pull2
      clear be ii ia ib
      have c00 := L.b0.c60
      have f00 := L.b0.fr 0
      have c01 := L.b0.c61
      have f01 := L.b0.fr 1
      have c02 := L.b0.c62
      have f02 := L.b0.fr 2
      have c03 := L.b0.c63
      have f03 := L.b0.fr 3
      have c04 := L.b0.c64
      have f04 := L.b0.fr 4
      have c05 := L.b0.c65
      have f05 := L.b0.fr 5
      go_wp2_with fail
      clear c00 f00 c01 f01 c02 f02 c03 f03 c04 f04 c05 f05
      obtain ⟨ea, eb, ⟨hMa, hEa⟩, hNb, hFb⟩ := HR.out
      subst hMa hEa hNb hFb
      have LP := L.putI (by omega) (by simp [n2, n3, Ne.symm n2, Ne.symm n3]) (ng (mkM a (-(k : Int)))) A8 (zl (mkM a (-(k : Int)))) c8 (mkE a (-(k : Int))) (ng (mkM b (-(k : Int)))) B8 (zl (mkM b (-(k : Int)))) d8 (mkE b (-(k : Int)))
      have k0 := LP.b0.c60
      have k1 := LP.b0.c61
      have k2 := LP.b0.c62
      have k3 := LP.b0.c63
      have k4 := LP.b0.c64
      have k5 := LP.b0.c65
      unfold put6 at k0 k1 k2 k3 k4 k5
      exact bodyPost_ret (v := .tuple #[.agg #[.bool (ng (mkM a (-(k : Int)))), .slice A8 (zl (mkM a (-(k : Int)))) c8, .int .i64 (mkE a (-(k : Int))), .bool (ng (mkM b (-(k : Int)))), .slice B8 (zl (mkM b (-(k : Int)))) d8, .int .i64 (mkE b (-(k : Int)))], .int .i64 0]) (by simp [results, Tryz.results14, go_sem, k0, k1, k2, k3, k4, k5]) rfl ⟨a, b, ea, eb, _, rfl, isI_n (LP.getN (by simp)) (LP.getN (by simp)), LP.below⟩
    · have d3 : decide (cmpI ML 0 < 0) = false := by
        refine decide_eq_false ?_
        unfold cmpI
        (repeat' split) <;> omega
      have hz := (dq_le_iff 0 ML EL)
      rw [dq_zero] at hz
      have hq := hz.2 hneg
      have ea := ep_lo (Q := dq ML EL) hl1 hu1 HLB.out.1 (Or.inr ⟨l2', hq⟩)
      obtain ⟨a, ha⟩ : ∃ z, cutQ (dq ML EL) (k : Int) = z := ⟨_, rfl⟩
      rw [ha] at ea
      obtain ⟨a1, _⟩ := np ea.2.1 (by omega) (show k ≤ 3000 by omega)
      have g11 := fun x W h (hW : Below w.heap.size w W) => i10out_yes ML EL MH EH (k : Int) x W h (by omega) (by omega) (by omega) (by omega) (by omega) (by omega) HPK.out (by rw [ha]; exact a1) (by rw [hb]; exact b1) (HT.out W hW)
      rw [ha, hb] at g11
      obtain ⟨Ma, hMa⟩ : ∃ z, mkM a (-(k : Int)) = z := ⟨_, rfl⟩
      obtain ⟨Ea, hEa⟩ : ∃ z, mkE a (-(k : Int)) = z := ⟨_, rfl⟩
      obtain ⟨Nb, hNb⟩ : ∃ z, mkM b (-(k : Int)) = z := ⟨_, rfl⟩
      obtain ⟨Fb, hFb⟩ : ∃ z, mkE b (-(k : Int)) = z := ⟨_, rfl⟩
      rw [hMa, hEa, hNb, hFb] at g11
      have G11 := Lib.hid g11
      have HR := Lib.hid (And.intro ea (And.intro eb (And.intro (And.intro hMa hEa) (And.intro hNb hFb))))
      clear g11 ea eb hMa hEa hNb hFb ha hb a1 b1 hz hq hneg hl1 hu1 hs1 hM1 hE1 l2' l3 l4 l5 h3 h4 hp1 hj1 hj2 hk hl2 hu2 hs2 hM2 hE2 hp2
      have c00 := L.b0.c30
      have f00 := L.b0.fr 0
      have c01 := L.b0.c31
      have f01 := L.b0.fr 1
      have c02 := L.b0.c32
      have f02 := L.b0.fr 2
      have c10 := L.tl.b0.c30
      have c11 := L.tl.b0.c31
      have c12 := L.tl.b0.c32
      (try go_wp2_with fail)
      clear c00 f00 c01 f01 c02 f02 c10 c11 c12
      refine (G11.out _ _ (isI_n (m := ML) (e := EL) (n := MH) (f := EH) (s := .slice A5 (zl ML) c5) (t := .slice A6 (zl MH) c6) (L.getN (by simp)) (L.getN (by simp))) L.below).mono ?_
      rintro e w8 ⟨v2, rfl, ii, be⟩
      obtain ⟨A8, c8, B8, d8, rfl, ia, ib⟩ := ii.form
      replace L := (((L.step be).n ib).n ia).pull2
      clear be ii ia ib
      have c00 := L.b0.c60
      have f00 := L.b0.fr 0
      have c01 := L.b0.c61
      have f01 := L.b0.fr 1
      have c02 := L.b0.c62
      have f02 := L.b0.fr 2
      have c03 := L.b0.c63
      have f03 := L.b0.fr 3
      have c04 := L.b0.c64
      have f04 := L.b0.fr 4
      have c05 := L.b0.c65
      have f05 := L.b0.fr 5
      go_wp2_with fail
      clear c00 f00 c01 f01 c02 f02 c03 f03 c04 f04 c05 f05
      obtain ⟨ea, eb, ⟨hMa, hEa⟩, hNb, hFb⟩ := HR.out
      subst hMa hEa hNb hFb
      have LP := L.putI (by omega) (by simp [n2, n3, Ne.symm n2, Ne.symm n3]) (ng (mkM a (-(k : Int)))) A8 (zl (mkM a (-(k : Int)))) c8 (mkE a (-(k : Int))) (ng (mkM b (-(k : Int)))) B8 (zl (mkM b (-(k : Int)))) d8 (mkE b (-(k : Int)))
      have k0 := LP.b0.c60
      have k1 := LP.b0.c61
      have k2 := LP.b0.c62
      have k3 := LP.b0.c63
      have k4 := LP.b0.c64
      have k5 := LP.b0.c65
      unfold put6 at k0 k1 k2 k3 k4 k5
      exact bodyPost_ret (v := .tuple #[.agg #[.bool (ng (mkM a (-(k : Int)))), .slice A8 (zl (mkM a (-(k : Int)))) c8, .int .i64 (mkE a (-(k : Int))), .bool (ng (mkM b (-(k : Int)))), .slice B8 (zl (mkM b (-(k : Int)))) d8, .int .i64 (mkE b (-(k : Int)))], .int .i64 0]) (by simp [results, Tryz.results14, go_sem, k0, k1, k2, k3, k4, k5]) rfl ⟨a, b, ea, eb, _, rfl, isI_n (LP.getN (by simp)) (LP.getN (by simp)), LP.below⟩
  · have d2 : decide (cn < 0) = false := decide_eq_false (by omega)
    go_enter Tryz.func14, Tryz.ntmps14
    have L := ((L0.varI (w.heap.size) (by simp) (ng m) A (zl m) c e (ng m) B (zl m) d e).varI (w.heap.size + 1) (by simp) false none 0 0 0 false none 0 0 0)
    have c00 := L.b0.c60
    have f00 := L.b0.fr 0
    have c01 := L.b0.c61
    have f01 := L.b0.fr 1
    have c02 := L.b0.c62
    have f02 := L.b0.fr 2
    have c03 := L.b0.c63
    have f03 := L.b0.fr 3
    have c04 := L.b0.c64
    have f04 := L.b0.fr 4
    have c05 := L.b0.c65
    have f05 := L.b0.fr 5
    (try go_wp2_with fail)
    refine (HP.out _).mono ?_
    rintro e9 w' ⟨rfl, rfl⟩
    (try go_wp2_with fail)
    replace L := L.drew
    clear c00 f00 c01 f01 c02 f02 c03 f03 c04 f04 c05 f05
    have c10 := L.tl.b0.c60
    have c11 := L.tl.b0.c61
    have c12 := L.tl.b0.c62
    have c13 := L.tl.b0.c63
    have c14 := L.tl.b0.c64
    have c15 := L.tl.b0.c65
    go_region_held3 (fun w' => w'.cell? ⟨w.heap.size, 0, none⟩ = some (.bool (ng m)) ∧ w'.cell? ⟨w.heap.size, 1, none⟩ = some (.slice A (zl m) c) ∧ w'.cell? ⟨w.heap.size, 2, none⟩ = some (.int .i64 e) ∧ w'.cell? ⟨w.heap.size, 3, none⟩ = some (.bool (ng m)) ∧ w'.cell? ⟨w.heap.size, 4, none⟩ = some (.slice B (zl m) d) ∧ w'.cell? ⟨w.heap.size, 5, none⟩ = some (.int .i64 e)) (first | (with_reducible exact ⟨L.tl.b0.c60, L.tl.b0.c61, L.tl.b0.c62, L.tl.b0.c63, L.tl.b0.c64, L.tl.b0.c65⟩) | exact ⟨L.tl.b0.c60, L.tl.b0.c61, L.tl.b0.c62, L.tl.b0.c63, L.tl.b0.c64, L.tl.b0.c65⟩) (first | (go_at_call 55; (with_reducible refine (G1.out _ _ ?_ ).mono ?_); (· (refine isI_n (L.getN ?_) (L.getN ?_); all_goals (repeat (first | (with_reducible exact List.mem_cons_self) | apply List.mem_cons_of_mem)))); rintro e wh ⟨rfl, be⟩; replace L := L.step be; clear be) | (go_at_call 57; (with_reducible refine (G2.out _ ?_ ).mono ?_); (· exact L.below); rintro e wh ⟨vh, rfl, id, be⟩; obtain ⟨A1, c1, rfl, _, in9⟩ := id.form; replace L := (L.step be).n in9; clear be id in9) | (go_at_call 56; (with_reducible refine (G3.out _ _ _ ?_ ?_ ).mono ?_); (· (refine isD_n (L.getN ?_); (repeat (first | (with_reducible exact List.mem_cons_self) | apply List.mem_cons_of_mem)))); (· (refine isD_n (L.getN ?_); (repeat (first | (with_reducible exact List.mem_cons_self) | apply List.mem_cons_of_mem)))); rintro e wh ⟨rfl, be⟩; replace L := L.step be; clear be))
    clear c10 c11 c12 c13 c14 c15
    have c10 := L.tl.b0.c60
    have c11 := L.tl.b0.c61
    have c12 := L.tl.b0.c62
    have c13 := L.tl.b0.c63
    have c14 := L.tl.b0.c64
    have c15 := L.tl.b0.c65
    (try go_wp2_with fail)
    refine (G4.out _ _ (isD_n (m := m) (e := e) (s := .slice A (zl m) c) (L.getN (by simp))) L.below).mono ?_
    rintro e w1 ⟨s1, p1, hp1, hs1, hn19, hl1, hu1, v9, rfl, iz, be⟩
    clear c10 c11 c12 c13 c14 c15
    obtain ⟨A2, c2, rfl, _, in9⟩ := iz.form
    replace L := (L.step be).n in9
    clear be iz in9
    have hl9 := L.b0.lt
    obtain ⟨M1, hM1⟩ : ∃ z, mkM s1 (-(p1 : Int)) = z := ⟨_, rfl⟩
    obtain ⟨E1, hE1⟩ : ∃ z, mkE s1 (-(p1 : Int)) = z := ⟨_, rfl⟩
    rw [hM1] at L ⊢
    rw [hE1]
    have HW1 := Lib.hid (And.intro hp1 (And.intro hs1 (And.intro hl1 (And.intro hu1 (And.intro hM1 hE1)))))
    clear hp1 hs1 hn19 hl1 hu1 hM1 hE1
    replace L := L.varD w1.heap.size rfl (ng M1) A2 (zl M1) c2 E1
    have c00 := L.b0.c30
    have c01 := L.b0.c31
    have c02 := L.b0.c32
    replace L := L.varD (w1.heap.size + 1) (by simp) (ng M1) A2 (zl M1) c2 E1
    have d00 := L.tl.tl.tl.b0.c60
    have d01 := L.tl.tl.tl.b0.c61
    have d02 := L.tl.tl.tl.b0.c62
    have d03 := L.tl.tl.tl.b0.c63
    have d04 := L.tl.tl.tl.b0.c64
    have d05 := L.tl.tl.tl.b0.c65
    (try go_wp2_with fail)
    clear c00 c01 c02 d00 d01 d02 d03 d04 d05
    obtain ⟨g1, hg1⟩ : ∃ g9, w1.heap.size = g9 := ⟨_, rfl⟩
    rw [hg1] at L hl9 ⊢
    clear hg1
    have hl_g1 := hl9
    clear hl9
    refine (G6.out _ _ _ (isD_n (m := m) (e := e) (s := .slice A (zl m) c) (L.getN (by simp))) (isD_n (m := m) (e := e) (s := .slice B (zl m) d) (L.getN (by simp)))).mono ?_
    rintro e w2 ⟨rfl, be⟩
    replace L := L.step be
    clear be
    (try go_wp2_with fail)
    refine (G7.out _ L.below).mono ?_
    rintro e w3 ⟨v9, rfl, iz, be⟩
    obtain ⟨A4, c4, rfl, _, in9⟩ := iz.form
    replace L := (L.step be).n in9
    clear be iz in9
    have hl9 := L.b0.lt
    replace L := L.varD w3.heap.size rfl (ng Mu) A4 (zl Mu) c4 Eu
    have c00 := L.b0.c30
    have c01 := L.b0.c31
    have c02 := L.b0.c32
    have c20 := L.tl.tl.b0.c30
    have c21 := L.tl.tl.b0.c31
    have c22 := L.tl.tl.b0.c32
    go_wp2_with fail
    clear c00 c01 c02 c20 c21 c22
    obtain ⟨gm, hgm⟩ : ∃ g9, w3.heap.size = g9 := ⟨_, rfl⟩
    rw [hgm] at L hl9 ⊢
    clear hgm
    have hl_gm := hl9
    clear hl9
    obtain ⟨hj1, hj2, hk⟩ := HJ.out
    obtain ⟨hmu, heu⟩ := HMU.out
    obtain ⟨zu, eu⟩ := HU.out
    rw [hmu] at zu
    rw [heu] at eu
    obtain ⟨hp1, hs1, hl1, hu1, hM1, hE1⟩ := HW1.out
    obtain ⟨q1, q2, q3, _, _⟩ := np hs1 (by omega) (show p1 ≤ 3000 by omega)
    rw [hM1] at q2
    rw [hE1] at q3
    obtain ⟨ML, hML⟩ : ∃ z, mkM (addS M1 E1 (-Mu) Eu) (min E1 Eu) = z := ⟨_, rfl⟩
    obtain ⟨EL, hEL⟩ : ∃ z, mkE (addS M1 E1 (-Mu) Eu) (min E1 Eu) = z := ⟨_, rfl⟩
    obtain ⟨l1, l2, l3, l4, l5⟩ := ep_sum (-1) hs1 hp1 (show j ≤ 300 by omega) (Or.inr rfl) ML EL (by rw [hM1, hE1, hmu, heu, Int.neg_mul, Int.one_mul]; exact hML) (by rw [hM1, hE1, hmu, heu, Int.neg_mul, Int.one_mul]; exact hEL)
    rw [hM1, hE1, hmu, heu, Int.neg_mul, Int.one_mul] at l1
    have g8 := fun x y W h i (hW : Below w.heap.size w W) => dsub_any M1 E1 Mu Eu x y W h i (by omega) (by omega) (by omega) (by omega) (HT.out W hW)
    rw [l1, hML, hEL] at g8
    obtain ⟨MH, hMH⟩ : ∃ z, mkM (addS M1 E1 Mu Eu) (min E1 Eu) = z := ⟨_, rfl⟩
    obtain ⟨EH, hEH⟩ : ∃ z, mkE (addS M1 E1 Mu Eu) (min E1 Eu) = z := ⟨_, rfl⟩
    obtain ⟨h1, h2, h3, h4, h5⟩ := ep_sum 1 hs1 hp1 (show j ≤ 300 by omega) (Or.inl rfl) MH EH (by rw [hM1, hE1, hmu, heu, Int.one_mul]; exact hMH) (by rw [hM1, hE1, hmu, heu, Int.one_mul]; exact hEH)
    rw [hM1, hE1, hmu, heu, Int.one_mul] at h1
    have g9 := fun x y W h i (hW : Below w.heap.size w W) => dadd_any M1 E1 Mu Eu x y W h i (by omega) (by omega) (by omega) (by omega) (HT.out W hW)
    rw [h1, hMH, hEH] at g9
    rw [hj1, show ((-1 : Int) : Rat) = -1 from rfl] at l2
    rw [hj1, show ((1 : Int) : Rat) = 1 from rfl] at h2
    have HL := Lib.hid (And.intro l2 (And.intro l3 (And.intro l4 l5)))
    have HH := Lib.hid (And.intro h2 (And.intro h3 h4))
    have G8 := Lib.hid g8
    have G9 := Lib.hid g9
    have g10 := fun x W h => dsign_any ML EL x W h (by omega)
    have G10 := Lib.hid g10
    clear g8 g9 g10 l1 l2 l3 l4 l5 h1 h2 h3 h4 h5 q1 q2 q3 zu eu hmu heu hj1 hj2 hk hML hEL hMH hEH hp1 hs1 hl1 hu1 hM1 hE1
    refine (G8.out _ _ _ (isD_n (m := M1) (e := E1) (s := .slice A2 (zl M1) c2) (L.getN (by simp))) (isD_n (m := Mu) (e := Eu) (s := .slice A4 (zl Mu) c4) (L.getN (by simp))) L.below).mono ?_
    rintro e w4 ⟨v9, rfl, iz, be⟩
    obtain ⟨A5, c5, rfl, _, in9⟩ := iz.form
    replace L := (L.step be).n in9
    clear be iz in9
    have hl9 := L.b0.lt
    replace L := L.varD w4.heap.size rfl (ng ML) A5 (zl ML) c5 EL
    have c10 := L.tl.b0.c30
    have c11 := L.tl.b0.c31
    have c12 := L.tl.b0.c32
    have c20 := L.tl.tl.b0.c30
    have c21 := L.tl.tl.b0.c31
    have c22 := L.tl.tl.b0.c32
    go_wp2_with fail
    clear c10 c11 c12 c20 c21 c22
    obtain ⟨gl, hgl⟩ : ∃ g9, w4.heap.size = g9 := ⟨_, rfl⟩
    rw [hgl] at L hl9 ⊢
    clear hgl
    have hl_gl := hl9
    clear hl9
    refine (G9.out _ _ _ (isD_n (m := M1) (e := E1) (s := .slice A2 (zl M1) c2) (L.getN (by simp))) (isD_n (m := Mu) (e := Eu) (s := .slice A4 (zl Mu) c4) (L.getN (by simp))) L.below).mono ?_
    rintro e w5 ⟨v9, rfl, iz, be⟩
    obtain ⟨A6, c6, rfl, _, in9⟩ := iz.form
    replace L := (L.step be).n in9
    clear be iz in9
    have hl9 := L.b0.lt
    replace L := L.varD w5.heap.size rfl (ng MH) A6 (zl MH) c6 EH
    have c10 := L.tl.b0.c30
    have c11 := L.tl.b0.c31
    have c12 := L.tl.b0.c32
    go_wp2_with fail
    clear c10 c11 c12
    obtain ⟨gh, hgh⟩ : ∃ g9, w5.heap.size = g9 := ⟨_, rfl⟩
    rw [hgh] at L hl9 ⊢
    clear hgh
    have hl_gh := hl9
    clear hl9
    refine (G10.out _ _ (isD_n (m := ML) (e := EL) (s := .slice A5 (zl ML) c5) (L.getN (by simp)))).mono ?_
    rintro e w6 ⟨rfl, be⟩
    replace L := L.step be
    clear be
    have L9 := L.subx (ns' := [(.slice A5 (zl ML) c5, ML.natAbs), (.slice A6 (zl MH) c6, MH.natAbs)]) (bs' := [(gl, 26, #[.bool (ng ML), .slice A5 (zl ML) c5, .int .i64 EL]), (gh, 26, #[.bool (ng MH), .slice A6 (zl MH) c6, .int .i64 EH]), (w.heap.size + 1, 28, #[.bool false, .slice none 0 0, .int .i64 0, .bool false, .slice none 0 0, .int .i64 0])]) (by simp) (by simp)
    clear L
    have L := L9
    clear L9
    obtain ⟨l2, l3, l4, l5⟩ := HL.out
    obtain ⟨h2, h3, h4⟩ := HH.out
    obtain ⟨hj1, hj2, hk⟩ := HJ.out
    obtain ⟨hp1, hs1, hl1, hu1, hM1, hE1⟩ := HW1.out
    have n1 : gl ≠ gh := by omega
    have n2 : w.heap.size + 1 ≠ gh := by omega
    have n3 : w.heap.size + 1 ≠ gl := by omega
    have eb := ep_hi hl1 hu1 HLB.out.1
    have h2' : dq MH EH = dq s1 (-(p1 : Int)) + dq 1 (-((k : Int) + 20)) := by rw [h2, Rat.one_mul]
    rw [← h2'] at eb
    obtain ⟨b, hb⟩ : ∃ z, -(cutQ (-(dq MH EH)) (k : Int)) = z := ⟨_, rfl⟩
    rw [hb] at eb
    obtain ⟨b1, _⟩ := np eb.1 (by omega) (show k ≤ 3000 by omega)
    have l2' : dq ML EL = dq s1 (-(p1 : Int)) - dq 1 (-((k : Int) + 20)) := by rw [l2, Rat.sub_eq_add_neg, Rat.neg_mul, Rat.one_mul]
    clear l2 h2 h2'
    rcases Int.lt_or_le ML 0 with hneg | hneg
    · have d3 : decide (cmpI ML 0 < 0) = true := decide_eq_true (by rw [cmpI_lt hneg]; omega)
      have hz := (dq_le_iff 0 ML EL)
      rw [dq_zero] at hz
      have hq : dq ML EL < 0 := Rat.not_le.1 fun h => by have := hz.1 h; omega
      rw [l2'] at hq
      have ea := ep_lo (Q := dq 0 0) hl1 hu1 HLB.out.1 (Or.inl ⟨dq_zero 0, hq⟩)
      obtain ⟨a, ha⟩ : ∃ z, cutQ (dq 0 0) (k : Int) = z := ⟨_, rfl⟩
      rw [ha] at ea
      obtain ⟨a1, _⟩ := np ea.2.1 (by omega) (show k ≤ 3000 by omega)
      have g11 := fun x W h (hW : Below w.heap.size w W) => i10out_yes 0 0 MH EH (k : Int) x W h (by rw [show zl 0 = 0 from len_zero]; omega) (by omega) (by omega) (by omega) (by omega) (by omega) HPK.out (by rw [ha]; exact a1) (by rw [hb]; exact b1) (HT.out W hW)
      rw [ha, hb] at g11
      obtain ⟨Ma, hMa⟩ : ∃ z, mkM a (-(k : Int)) = z := ⟨_, rfl⟩
      obtain ⟨Ea, hEa⟩ : ∃ z, mkE a (-(k : Int)) = z := ⟨_, rfl⟩
      obtain ⟨Nb, hNb⟩ : ∃ z, mkM b (-(k : Int)) = z := ⟨_, rfl⟩
      obtain ⟨Fb, hFb⟩ : ∃ z, mkE b (-(k : Int)) = z := ⟨_, rfl⟩
      rw [hMa, hEa, hNb, hFb] at g11
      have G11 := Lib.hid g11
      have HR := Lib.hid (And.intro ea (And.intro eb (And.intro (And.intro hMa hEa) (And.intro hNb hFb))))
      clear g11 ea eb hMa hEa hNb hFb ha hb a1 b1 hz hq hneg hl1 hu1 hs1 hM1 hE1 l2' l3 l4 l5 h3 h4 hp1 hj1 hj2 hk
      have c00 := L.b0.c30
      have f00 := L.b0.fr 0
      have c01 := L.b0.c31
      have f01 := L.b0.fr 1
      have c02 := L.b0.c32
      have f02 := L.b0.fr 2
      have c10 := L.tl.b0.c30
      have c11 := L.tl.b0.c31
      have c12 := L.tl.b0.c32
      have P := L.putD (by omega) (by simp [n1, n2, n3, Ne.symm n1, Ne.symm n2, Ne.symm n3]) false none 0 0 0
      have p00 := P.b0.c30
      have p01 := P.b0.c31
      have p02 := P.b0.c32
      have p03 := P.tl.b0.c30
      have p04 := P.tl.b0.c31
      have p05 := P.tl.b0.c32
      unfold put3 at p00 p01 p02 p03 p04 p05 P
      (try go_wp2_with fail)
      replace L := P
      clear P p00 p01 p02 p03 p04 p05
      clear c00 f00 c01 f01 c02 f02 c10 c11 c12
      refine (G11.out _ _ ⟨.slice none 0 0, .slice A6 (zl MH) c6, by simp [ng], IsN.zero _, L.getN (by simp)⟩ L.below).mono ?_
      rintro e w7 ⟨v2, rfl, ii, be⟩
      obtain ⟨A8, c8, B8, d8, rfl, ia, ib⟩ := ii.form
      replace L := (((L.step be).n ib).n ia).pull2
      clear be ii ia ib
      have c00 := L.b0.c60
      have f00 := L.b0.fr 0
      have c01 := L.b0.c61
      have f01 := L.b0.fr 1
      have c02 := L.b0.c62
      have f02 := L.b0.fr 2
      have c03 := L.b0.c63
      have f03 := L.b0.fr 3
      have c04 := L.b0.c64
      have f04 := L.b0.fr 4
      have c05 := L.b0.c65
      have f05 := L.b0.fr 5
      go_wp2_with fail
      clear c00 f00 c01 f01 c02 f02 c03 f03 c04 f04 c05 f05
      obtain ⟨ea, eb, ⟨hMa, hEa⟩, hNb, hFb⟩ := HR.out
      subst hMa hEa hNb hFb
      have LP := L.putI (by omega) (by simp [n2, n3, Ne.symm n2, Ne.symm n3]) (ng (mkM a (-(k : Int)))) A8 (zl (mkM a (-(k : Int)))) c8 (mkE a (-(k : Int))) (ng (mkM b (-(k : Int)))) B8 (zl (mkM b (-(k : Int)))) d8 (mkE b (-(k : Int)))
      have k0 := LP.b0.c60
      have k1 := LP.b0.c61
      have k2 := LP.b0.c62
      have k3 := LP.b0.c63
      have k4 := LP.b0.c64
      have k5 := LP.b0.c65
      unfold put6 at k0 k1 k2 k3 k4 k5
      exact bodyPost_ret (v := .tuple #[.agg #[.bool (ng (mkM a (-(k : Int)))), .slice A8 (zl (mkM a (-(k : Int)))) c8, .int .i64 (mkE a (-(k : Int))), .bool (ng (mkM b (-(k : Int)))), .slice B8 (zl (mkM b (-(k : Int)))) d8, .int .i64 (mkE b (-(k : Int)))], .int .i64 0]) (by simp [results, Tryz.results14, go_sem, k0, k1, k2, k3, k4, k5]) rfl ⟨a, b, ea, eb, _, rfl, isI_n (LP.getN (by simp)) (LP.getN (by simp)), LP.below⟩
    · have d3 : decide (cmpI ML 0 < 0) = false := by
        refine decide_eq_false ?_
        unfold cmpI
        (repeat' split) <;> omega
      have hz := (dq_le_iff 0 ML EL)
      rw [dq_zero] at hz
      have hq := hz.2 hneg
      have ea := ep_lo (Q := dq ML EL) hl1 hu1 HLB.out.1 (Or.inr ⟨l2', hq⟩)
      obtain ⟨a, ha⟩ : ∃ z, cutQ (dq ML EL) (k : Int) = z := ⟨_, rfl⟩
      rw [ha] at ea
      obtain ⟨a1, _⟩ := np ea.2.1 (by omega) (show k ≤ 3000 by omega)
      have g11 := fun x W h (hW : Below w.heap.size w W) => i10out_yes ML EL MH EH (k : Int) x W h (by omega) (by omega) (by omega) (by omega) (by omega) (by omega) HPK.out (by rw [ha]; exact a1) (by rw [hb]; exact b1) (HT.out W hW)
      rw [ha, hb] at g11
      obtain ⟨Ma, hMa⟩ : ∃ z, mkM a (-(k : Int)) = z := ⟨_, rfl⟩
      obtain ⟨Ea, hEa⟩ : ∃ z, mkE a (-(k : Int)) = z := ⟨_, rfl⟩
      obtain ⟨Nb, hNb⟩ : ∃ z, mkM b (-(k : Int)) = z := ⟨_, rfl⟩
      obtain ⟨Fb, hFb⟩ : ∃ z, mkE b (-(k : Int)) = z := ⟨_, rfl⟩
      rw [hMa, hEa, hNb, hFb] at g11
      have G11 := Lib.hid g11
      have HR := Lib.hid (And.intro ea (And.intro eb (And.intro (And.intro hMa hEa) (And.intro hNb hFb))))
      clear g11 ea eb hMa hEa hNb hFb ha hb a1 b1 hz hq hneg hl1 hu1 hs1 hM1 hE1 l2' l3 l4 l5 h3 h4 hp1 hj1 hj2 hk
      have c00 := L.b0.c30
      have f00 := L.b0.fr 0
      have c01 := L.b0.c31
      have f01 := L.b0.fr 1
      have c02 := L.b0.c32
      have f02 := L.b0.fr 2
      have c10 := L.tl.b0.c30
      have c11 := L.tl.b0.c31
      have c12 := L.tl.b0.c32
      (try go_wp2_with fail)
      clear c00 f00 c01 f01 c02 f02 c10 c11 c12
      refine (G11.out _ _ (isI_n (m := ML) (e := EL) (n := MH) (f := EH) (s := .slice A5 (zl ML) c5) (t := .slice A6 (zl MH) c6) (L.getN (by simp)) (L.getN (by simp))) L.below).mono ?_
      rintro e w7 ⟨v2, rfl, ii, be⟩
      obtain ⟨A8, c8, B8, d8, rfl, ia, ib⟩ := ii.form
      replace L := (((L.step be).n ib).n ia).pull2
      clear be ii ia ib
      have c00 := L.b0.c60
      have f00 := L.b0.fr 0
      have c01 := L.b0.c61
      have f01 := L.b0.fr 1
      have c02 := L.b0.c62
      have f02 := L.b0.fr 2
      have c03 := L.b0.c63
      have f03 := L.b0.fr 3
      have c04 := L.b0.c64
      have f04 := L.b0.fr 4
      have c05 := L.b0.c65
      have f05 := L.b0.fr 5
      go_wp2_with fail
      clear c00 f00 c01 f01 c02 f02 c03 f03 c04 f04 c05 f05
      obtain ⟨ea, eb, ⟨hMa, hEa⟩, hNb, hFb⟩ := HR.out
      subst hMa hEa hNb hFb
      have LP := L.putI (by omega) (by simp [n2, n3, Ne.symm n2, Ne.symm n3]) (ng (mkM a (-(k : Int)))) A8 (zl (mkM a (-(k : Int)))) c8 (mkE a (-(k : Int))) (ng (mkM b (-(k : Int)))) B8 (zl (mkM b (-(k : Int)))) d8 (mkE b (-(k : Int)))
      have k0 := LP.b0.c60
      have k1 := LP.b0.c61
      have k2 := LP.b0.c62
      have k3 := LP.b0.c63
      have k4 := LP.b0.c64
      have k5 := LP.b0.c65
      unfold put6 at k0 k1 k2 k3 k4 k5
      exact bodyPost_ret (v := .tuple #[.agg #[.bool (ng (mkM a (-(k : Int)))), .slice A8 (zl (mkM a (-(k : Int)))) c8, .int .i64 (mkE a (-(k : Int))), .bool (ng (mkM b (-(k : Int)))), .slice B8 (zl (mkM b (-(k : Int)))) d8, .int .i64 (mkE b (-(k : Int)))], .int .i64 0]) (by simp [results, Tryz.results14, go_sem, k0, k1, k2, k3, k4, k5]) rfl ⟨a, b, ea, eb, _, rfl, isI_n (LP.getN (by simp)) (LP.getN (by simp)), LP.below⟩

theorem n2000 : mkM 2000 0 = 125 ∧ mkE 2000 0 = 4 := by
  have h2 : AbP 2000 11 := by unfold AbP; decide
  obtain ⟨a1, _, _, _, _, a6⟩ := nf h2 (by omega)
  have hv : Dv 125 4 := Or.inr ⟨by decide, by decide +kernel⟩
  exact dv_uniq (mk_ok a1) hv (by rw [a6]; decide +kernel)
theorem dv_00 : Dv 0 0 := Or.inl ⟨rfl, rfl⟩
theorem zl_c (x : Int) (h : x.natAbs < 4294967296) : zl x ≤ 1 := len_le1 h

set_option maxHeartbeats 8000000 in
theorem awake14_any (w : World) (hT : Tab w) :
    Calls Tryz.prog 10 #[] w (RetB w true) := by
  have HT := Lib.hid (fun W (hW : Below w.heap.size w W) => hT.mono hW)
  have z0 : zl 0 ≤ 1 := zl_c 0 (by decide)
  have z5 : zl 125 ≤ 1 := zl_c 125 (by decide)
  have hd0 : dq 0 0 = 0 := dq_zero 0
  have g1 := fun W => of14_any 0 0 W (by omega) (by omega)
  rw [nf00.1, nf00.2] at g1
  have g2 := fun v W h (hW : Below w.heap.size w W) => xexp_yes 0 0 0 0 3 v W h (by omega) (by omega) (by omega) (by omega) dv_00 dv_00 (by decide +kernel) (by omega) (by rw [hd0]; decide +kernel) (hT.mono hW)
  have g3 := fun W => of14_any 2000 2000 W (by omega) (by omega)
  rw [n2000.1, n2000.2] at g3
  have dv5 : Dv 125 4 := Or.inr ⟨by decide, by decide +kernel⟩
  have g4 := fun v W h (hW : Below w.heap.size w W) => xexp_large 125 4 125 4 3 v W h (by omega) (by omega) (by omega) (by omega) dv5 dv5 (by decide +kernel) (by omega) (by decide +kernel) (hT.mono hW)
  have g5 := fun W => (show Calls Tryz.prog 29 #[.int .i64 1] W (RetP W 1 1) from rofn7_any 1 W (by omega) (by omega))
  have G1 := Lib.hid g1
  have G2 := Lib.hid g2
  have G3 := Lib.hid g3
  have G4 := Lib.hid g4
  have G5 := Lib.hid g5
  clear g1 g2 g3 g4 g5 hT dv5
  go_enter Tryz.func10, Tryz.ntmps10
  go_wp2_with fail
  have L := Lq.mk0 w
  (try go_wp2_with fail)
  refine (G1.out _).mono ?_
  rintro e w1 ⟨vv, rfl, ii, be⟩
  obtain ⟨A1, c1, B1, d1, rfl, ia, ib⟩ := ii.form
  replace L := ((L.step be).n ib).n ia
  clear be ii ia ib
  (try go_wp2_with fail)
  refine (G2.out _ _ (isI_n (m := 0) (e := 0) (n := 0) (f := 0) (s := .slice A1 (zl 0) c1) (t := .slice B1 (zl 0) d1) (L.getN (by simp)) (L.getN (by simp))) L.below).mono ?_
  intro e9 w2 hr9
  obtain ⟨a, b, ea, eb, vv, rfl, ii, be⟩ := hr9.ab
  obtain ⟨A2, c2, B2, d2, rfl, ia, ib⟩ := ii.form
  replace L := ((L.step be).n ib).n ia
  clear be ii ia ib hr9
  obtain ⟨x1, x2, x3, x4, x5⟩ := np ea.2.1 (by omega) (show 3 ≤ 3000 by omega)
  obtain ⟨y1, y2, y3, y4, y5⟩ := np eb.1 (by omega) (show 3 ≤ 3000 by omega)
  rw [hd0] at ea eb
  have q1 := ea.2.2.1.le exp_0.2
  have q2 := exp_0.1.le eb.2.2
  have g6 : ∀ v u W, IsI W v (mkM a (-((3 : Nat) : Int))) (mkE a (-((3 : Nat) : Int))) (mkM b (-((3 : Nat) : Int))) (mkE b (-((3 : Nat) : Int))) → IsP W u 1 1 → Calls Tryz.prog 28 #[v, u] W (RetB W true) := fun v u W h k9 => by
    have s := r10has_any _ _ _ _ 1 1 v u W h k9 (by omega) (by omega) (by omega) (by omega) (Nat.le_trans (zl_c 1 (by decide)) (by omega)) (Nat.le_trans (len_le1 (by decide)) (by omega))
    rwa [(hasB_iff _ _ _ _ _ _ (by omega)).2 ⟨by rw [x5]; exact q1, by rw [y5]; exact q2⟩] at s
  obtain ⟨M, hM⟩ : ∃ z, mkM a (-((3 : Nat) : Int)) = z := ⟨_, rfl⟩
  obtain ⟨E, hE⟩ : ∃ z, mkE a (-((3 : Nat) : Int)) = z := ⟨_, rfl⟩
  obtain ⟨N, hN⟩ : ∃ z, mkM b (-((3 : Nat) : Int)) = z := ⟨_, rfl⟩
  obtain ⟨G, hG⟩ : ∃ z, mkE b (-((3 : Nat) : Int)) = z := ⟨_, rfl⟩
  rw [hM, hE, hN, hG] at g6
  rw [hM, hN] at L ⊢
  rw [hE, hG]
  have G6 := Lib.hid g6
  clear g6 x1 x2 x3 x4 x5 y1 y2 y3 y4 y5 q1 q2 ea eb hM hE hN hG G1 G2
  replace L := L.varI w2.heap.size rfl (ng M) A2 (zl M) c2 E (ng N) B2 (zl N) d2 G
  have cel00 := L.b0.c60
  have cel01 := L.b0.c61
  have cel02 := L.b0.c62
  have cel03 := L.b0.c63
  have cel04 := L.b0.c64
  have cel05 := L.b0.c65
  go_wp2_with fail
  clear cel00 cel01 cel02 cel03 cel04 cel05
  obtain ⟨b1, hb1⟩ : ∃ g9, w2.heap.size = g9 := ⟨_, rfl⟩
  rw [hb1] at L ⊢
  clear hb1
  refine (G3.out _).mono ?_
  rintro e w3 ⟨vv, rfl, ii, be⟩
  obtain ⟨A3, c3, B3, d3, rfl, ia, ib⟩ := ii.form
  replace L := ((L.step be).n ib).n ia
  clear be ii ia ib
  have hl2 := L.b0.lt
  (try go_wp2_with fail)
  refine (G4.out _ _ (isI_n (m := 125) (e := 4) (n := 125) (f := 4) (s := .slice A3 (zl 125) c3) (t := .slice B3 (zl 125) d3) (L.getN (by simp)) (L.getN (by simp))) L.below).mono ?_
  rintro e w4 ⟨vv, rfl, ii, be⟩
  obtain ⟨A4, c4, B4, d4, rfl, ia, ib⟩ := ii.form
  replace L := ((L.step be).n ib).n ia
  clear be ii ia ib hl2
  have hl2 := L.b0.lt
  replace L := L.varI w4.heap.size rfl (ng 0) A4 (zl 0) c4 0 (ng 0) B4 (zl 0) d4 0
  have cel00 := L.b0.c60
  have cel01 := L.b0.c61
  have cel02 := L.b0.c62
  have cel03 := L.b0.c63
  have cel04 := L.b0.c64
  have cel05 := L.b0.c65
  go_wp2_with fail
  clear cel00 cel01 cel02 cel03 cel04 cel05
  obtain ⟨b2, hb2⟩ : ∃ g9, w4.heap.size = g9 := ⟨_, rfl⟩
  rw [hb2] at L hl2 ⊢
  clear hb2
  replace L := L.drew
  have cel10 := L.tl.b0.c60
  have cel11 := L.tl.b0.c61
  have cel12 := L.tl.b0.c62
  have cel13 := L.tl.b0.c63
  have cel14 := L.tl.b0.c64
  have cel15 := L.tl.b0.c65
  go_region_held3 (fun w' => w'.cell? ⟨b1, 0, none⟩ = some (.bool (ng M)) ∧ w'.cell? ⟨b1, 1, none⟩ = some (.slice A2 (zl M) c2) ∧ w'.cell? ⟨b1, 2, none⟩ = some (.int .i64 E) ∧ w'.cell? ⟨b1, 3, none⟩ = some (.bool (ng N)) ∧ w'.cell? ⟨b1, 4, none⟩ = some (.slice B2 (zl N) d2) ∧ w'.cell? ⟨b1, 5, none⟩ = some (.int .i64 G)) (first | (with_reducible exact ⟨L.tl.b0.c60, L.tl.b0.c61, L.tl.b0.c62, L.tl.b0.c63, L.tl.b0.c64, L.tl.b0.c65⟩) | exact ⟨L.tl.b0.c60, L.tl.b0.c61, L.tl.b0.c62, L.tl.b0.c63, L.tl.b0.c64, L.tl.b0.c65⟩) (first | (go_at_call 29; (with_reducible refine (G5.out _ ).mono ?_); rintro e wh ⟨vh, rfl, iq, be⟩; replace L := (L.step be).q iq; clear be iq) | (go_at_call 28; (with_reducible refine (G6.out _ _ _ ?_ ?_ ).mono ?_); (· (refine isI_n (L.getN ?_) (L.getN ?_); all_goals (repeat (first | (with_reducible exact List.mem_cons_self) | apply List.mem_cons_of_mem)))); (· (refine L.getQ ?_; (repeat (first | (with_reducible exact List.mem_cons_self) | apply List.mem_cons_of_mem)))); rintro e wh ⟨rfl, be⟩; replace L := L.step be; clear be))
  (try go_wp2_with fail)
  (try go_ret)
  exact ⟨rfl, L.below⟩

theorem mk_fits14 {m e : Int} (h : zl m ≤ 1900) (h1 : -60000 ≤ e) (h2 : e ≤ 4000) : mkR m e = 0 := by
  unfold mkR
  rw [if_neg (by omega)]
  by_cases h0 : m = 0
  · rw [if_pos h0]
  · rw [if_neg h0]
    have ht := tz_le8 m.natAbs (by omega)
    have e1 : zl m = len m.natAbs := rfl
    have hb : blen (oddM m).natAbs ≤ 65536 := by
      have := blen_le_len (oddM m).natAbs
      have h3 := zl_odd m
      have e2 : zl (oddM m) = len (oddM m).natAbs := rfl
      omega
    have ho : bitB (oddM m).natAbs 0 = true := by
      obtain ⟨k, hk⟩ := tz_form (x := m.natAbs) (by omega)
      have hd : m.natAbs / 2 ^ tz m.natAbs = 2 * k + 1 := by
        have := Nat.mul_div_cancel_left (2 * k + 1) (Nat.pow_pos (n := tz m.natAbs) (show 0 < 2 by omega))
        rwa [← hk] at this
      unfold bitB
      rw [oddM_abs, hd, Nat.pow_zero, Nat.div_one]
      exact decide_eq_true (by omega)
    have hf : fits8 (oddM m) (oddE m e) = true := by
      unfold fits8 oddE
      rw [decide_eq_true hb, decide_eq_true (by omega), decide_eq_true (by omega), ho]
      rfl
    rw [hf]
    rfl
theorem dv_shift {m e s : Int} (h : Dv m e) (hz : zl m ≤ 3) (he : -5000 ≤ e ∧ e ≤ 3000) (hs : -100 ≤ s ∧ s ≤ 100) : mkR m (e + s) = 0 ∧ mkM m (e + s) = m ∧ (m = 0 ∨ mkE m (e + s) = e + s) ∧ Dv (mkM m (e + s)) (mkE m (e + s)) ∧ dq (mkM m (e + s)) (mkE m (e + s)) = dq m e * dq 1 s := by
  have hr := mk_fits14 (m := m) (e := e + s) (by omega) (by omega) (by omega)
  have hk := mk_ok hr
  have hq := dq_mk hr
  have hq2 := dq_mul m e 1 s
  rw [Int.mul_one] at hq2
  by_cases h0 : m = 0
  · refine ⟨hr, ?_, Or.inl h0, hk, hq.trans hq2⟩
    unfold mkM
    rw [if_pos hr, h0, oddM_zero]
  · have hd : Dv m (e + s) := by
      rcases h with ⟨h1, _⟩ | ⟨_, h2⟩
      · exact absurd h1 h0
      · refine Or.inr ⟨h0, ?_⟩
        unfold fits8 at *
        rw [Bool.and_eq_true, Bool.and_eq_true, Bool.and_eq_true] at h2
        rw [h2.1, h2.2.2.2, decide_eq_true (show -65536 ≤ e + s by omega), decide_eq_true (show e + s ≤ 65536 by omega)]
        rfl
    obtain ⟨u1, u2⟩ := dv_uniq hk hd hq
    exact ⟨hr, u1, Or.inr u2, hk, hq.trans hq2⟩
/-- What is left behind j rounds. -/
structure ArgR (j : Nat) (m e n f : Int) : Prop where
  vm : Dv m e
  vn : Dv n f
  le : dq m e ≤ dq n f
  zm : zl m ≤ 3
  zn : zl n ≤ 3
  em : m = 0 ∨ (-40 - 20 * (j : Int) ≤ e ∧ e ≤ 136 - 20 * (j : Int))
  en : n = 0 ∨ (-40 - 20 * (j : Int) ≤ f ∧ f ≤ 136 - 20 * (j : Int))
theorem ArgR.small {j : Nat} {m e n f : Int} (h : ArgR j m e n f) (hj : j ≤ 40) : (-1000 ≤ e ∧ e ≤ 1000) ∧ (-1000 ≤ f ∧ f ≤ 1000) := by
  have h1 := h.em
  have h2 := h.en
  constructor
  · rcases h1 with h1 | h1
    · have := dv_zero h.vm h1
      omega
    · omega
  · rcases h2 with h2 | h2
    · have := dv_zero h.vn h2
      omega
    · omega
theorem ArgR.more {j : Nat} {m e n f far : Int} (h : ArgR j m e n f) (hf : 0 ≤ far) (ht : far < topZ m e ∨ far < topZ n f) : j ≤ 11 := by
  have z1 := blen_le_len m.natAbs
  have z2 := blen_le_len n.natAbs
  have e1 : zl m = len m.natAbs := rfl
  have e2 : zl n = len n.natAbs := rfl
  have h1 := h.zm
  have h2 := h.zn
  rcases ht with ht | ht <;> unfold topZ at ht <;> split at ht
  · omega
  · rcases h.em with h3 | h3
    · contradiction
    · omega
  · omega
  · rcases h.en with h3 | h3
    · contradiction
    · omega
theorem ArgR.step {j : Nat} {m e n f : Int} (h : ArgR j m e n f) (hj : j ≤ 40) : ArgR (j + 1) (mkM m (e + -20)) (mkE m (e + -20)) (mkM n (f + -20)) (mkE n (f + -20)) := by
  obtain ⟨s1, s2⟩ := h.small hj
  obtain ⟨_, a1, a2, a3, a4⟩ := dv_shift (s := -20) h.vm h.zm (by omega) (by omega)
  obtain ⟨_, b1, b2, b3, b4⟩ := dv_shift (s := -20) h.vn h.zn (by omega) (by omega)
  refine ⟨a3, b3, ?_, by rw [a1]; exact h.zm, by rw [b1]; exact h.zn, ?_, ?_⟩
  · rw [a4, b4]
    exact Rat.mul_le_mul_of_nonneg_right h.le (Rat.le_of_lt (dq_pos _))
  · rw [a1]
    rcases a2 with a2 | a2
    · exact Or.inl a2
    · rw [a2]
      rcases h.em with h1 | h1
      · exact Or.inl h1
      · exact Or.inr (by omega)
  · rw [b1]
    rcases b2 with b2 | b2
    · exact Or.inl b2
    · rw [b2]
      rcases h.en with h1 | h1
      · exact Or.inl h1
      · exact Or.inr (by omega)
theorem ArgR.first {m e n f : Int} (h1 : Dv m e) (h2 : Dv n f) (hl : dcm m e n f ≤ 0) (z1 : zl m ≤ 2 + 1) (z2 : zl n ≤ 2 + 1) (he : -((40 : Nat) : Int) ≤ e ∧ e ≤ ((40 : Nat) : Int) + 32 * (((2 : Nat) : Int) + 1)) (hf : -((40 : Nat) : Int) ≤ f ∧ f ≤ ((40 : Nat) : Int) + 32 * (((2 : Nat) : Int) + 1)) : ArgR 0 m e n f :=
  ⟨h1, h2, (dcm_le _ _ _ _).1 hl, z1, z2, Or.inr (by omega), Or.inr (by omega)⟩
section
variable {w0 w : World} {ns : List (Value × Nat)} {zs : List (Value × Int)} {qs : List (Value × Int × Nat)} {bs : List (Nat × TypeId × Array Value)} {g : Nat} {v0 v1 v2 v3 v4 v5 : Value}
theorem Lq.putLo (h : Lq w0 w ns zs qs ((g, 28, #[v0, v1, v2, v3, v4, v5]) :: bs)) (hg : w0.heap.size ≤ g) (hd : ∀ p ∈ bs, p.1 ≠ g) (b : Bool) (A : Option Addr) (p c : Nat) (e : Int) :
    Lq w0 (((w.setCell ⟨g, 0, none⟩ (.bool b)).setCell ⟨g, 1, none⟩ (.slice A p c)).setCell ⟨g, 2, none⟩ (.int .i64 e)) ns zs qs ((g, 28, #[.bool b, .slice A p c, .int .i64 e, v3, v4, v5]) :: bs) :=
  ((h.set hg hd 0 (.bool b) (by intro x e; cases e)).set hg hd 1 (.slice A p c) (by intro x e; cases e)).set hg hd 2 (.int .i64 e) (by intro x e; cases e)
theorem Lq.putHi (h : Lq w0 w ns zs qs ((g, 28, #[v0, v1, v2, v3, v4, v5]) :: bs)) (hg : w0.heap.size ≤ g) (hd : ∀ p ∈ bs, p.1 ≠ g) (b : Bool) (A : Option Addr) (p c : Nat) (e : Int) :
    Lq w0 (((w.setCell ⟨g, 3, none⟩ (.bool b)).setCell ⟨g, 4, none⟩ (.slice A p c)).setCell ⟨g, 5, none⟩ (.int .i64 e)) ns zs qs ((g, 28, #[v0, v1, v2, .bool b, .slice A p c, .int .i64 e]) :: bs) :=
  ((h.set hg hd 3 (.bool b) (by intro x e; cases e)).set hg hd 4 (.slice A p c) (by intro x e; cases e)).set hg hd 5 (.int .i64 e) (by intro x e; cases e)
end
/-- What arg returns. -/
def RetArg (w : World) (far : Int) (en : Ending) (w' : World) : Prop := ∃ v ok m e n f, en = .returned (.tuple #[v, .bool ok]) ∧ IsI w' v m e n f ∧ Below w.heap.size w w' ∧ (ok = true → ∃ j, j ≤ 13 ∧ ArgR j m e n f ∧ topZ m e ≤ far ∧ topZ n f ≤ far)

set_option maxHeartbeats 16000000 in
theorem s14arg_any (b b' : Bool) (l l' : List Nat) (A A' : Option Addr) (p c p' c' : Nat) (e0 e1 far : Int) (w : World) (h : Sl w A p c l) (h' : Sl w A' p' c' l') (h1 : -9223372036854775808 ≤ e0) (h2 : e0 ≤ 9223372036854775807) (h3 : -9223372036854775808 ≤ e1) (h4 : e1 ≤ 9223372036854775807) (hfar : 0 ≤ far ∧ far ≤ 100) :
    Calls Tryz.prog 11 #[.agg #[.bool b, .slice A p c, .int .i64 e0, .bool b', .slice A' p' c', .int .i64 e1], .int .i64 far] w (RetArg w far) := by
  have H0 := Lib.hid (fun W (hW : Below w.heap.size w W) => millI_any b b' l l' 2 40 A A' p c p' c' e0 e1 W (h.mono hW) (h'.mono hW) (by omega) (by omega) h1 h2 h3 h4)
  clear h h' h1 h2 h3 h4
  go_enter Tryz.func11, Tryz.ntmps11
  go_wp2_with fail
  have L := (((Lq.mk0 w).varI (w.heap.size) (by simp) b A p c e0 b' A' p' c' e1).varI (w.heap.size + 1) (by simp) false none 0 0 0 false none 0 0 0)
  have c10 := L.tl.b0.c60
  have c11 := L.tl.b0.c61
  have c12 := L.tl.b0.c62
  have c13 := L.tl.b0.c63
  have c14 := L.tl.b0.c64
  have c15 := L.tl.b0.c65
  (try go_wp2_with fail)
  refine (H0.out _ L.below).mono ?_
  rintro e w1 ⟨vv, ok, m, e, n, f, rfl, ii, zz, be1, bf1, hdv, hcm, be⟩
  clear c10 c11 c12 c13 c14 c15
  obtain ⟨A6, c6, B6, d6, rfl, ia, ib⟩ := ii.form
  replace L := ((L.step be).n ib).n ia
  clear be ii ia ib
  have hl0 := L.b0.lt
  have hl1 := L.tl.b0.lt
  replace L := L.varI w1.heap.size rfl (ng m) A6 (zl m) c6 e (ng n) B6 (zl n) d6 f
  have HA := Lib.hid (fun h : ok = true => ArgR.first (hdv h).1 (hdv h).2 hcm zz.1 zz.2 be1 bf1)
  clear hdv hcm zz be1 bf1 H0
  cases ok
  · clear hl0 hl1
    have c00 := L.b0.c60
    have c01 := L.b0.c61
    have c02 := L.b0.c62
    have c03 := L.b0.c63
    have c04 := L.b0.c64
    have c05 := L.b0.c65
    have LS := L.subx (ns' := [(.slice A6 (zl m) c6, m.natAbs), (.slice B6 (zl n) d6, n.natAbs)]) (bs' := [(w.heap.size + 1, 28, #[.bool false, .slice none 0 0, .int .i64 0, .bool false, .slice none 0 0, .int .i64 0])]) (by simp) (by simp)
    have s0 := LS.b0.c60
    have r0 := LS.b0.fr 0
    have s1 := LS.b0.c61
    have r1 := LS.b0.fr 1
    have s2 := LS.b0.c62
    have r2 := LS.b0.fr 2
    have s3 := LS.b0.c63
    have r3 := LS.b0.fr 3
    have s4 := LS.b0.c64
    have r4 := LS.b0.fr 4
    have s5 := LS.b0.c65
    have r5 := LS.b0.fr 5
    go_wp2_with fail
    have LP := LS.putI (by omega) (by simp) (ng m) A6 (zl m) c6 e (ng n) B6 (zl n) d6 f
    have k0 := LP.b0.c60
    have k1 := LP.b0.c61
    have k2 := LP.b0.c62
    have k3 := LP.b0.c63
    have k4 := LP.b0.c64
    have k5 := LP.b0.c65
    unfold put6 at k0 k1 k2 k3 k4 k5
    exact bodyPost_ret (v := .tuple #[.agg #[.bool (ng m), .slice A6 (zl m) c6, .int .i64 e, .bool (ng n), .slice B6 (zl n) d6, .int .i64 f], .bool false]) (by simp [results, Tryz.results11, go_sem, k0, k1, k2, k3, k4, k5]) rfl ⟨_, _, m, e, n, f, rfl, isI_n (LP.getN (by simp)) (LP.getN (by simp)), LP.below, (fun h => by cases h)⟩
  · have HR := Lib.hid (HA.out rfl)
    clear HA
    have c00 := L.b0.c60
    have c01 := L.b0.c61
    have c02 := L.b0.c62
    have c03 := L.b0.c63
    have c04 := L.b0.c64
    have c05 := L.b0.c65
    go_wp2_with fail
    clear c00 c01 c02 c03 c04 c05
    obtain ⟨g6, hg6⟩ : ∃ g9, w1.heap.size = g9 := ⟨_, rfl⟩
    rw [hg6] at L hl0 hl1 ⊢
    clear hg6
    go_loopg [] 13 (fun k9 wr => ∃ (j : Nat) (m e n f : Int) (A6 B6 : Option Addr) (c6 d6 : Nat), j + k9 = 13 ∧ Lq w wr [(.slice A6 (zl m) c6, m.natAbs), (.slice B6 (zl n) d6, n.natAbs)] [] [] [(g6, 28, #[.bool (ng m), .slice A6 (zl m) c6, .int .i64 e, .bool (ng n), .slice B6 (zl n) d6, .int .i64 f]), (w.heap.size + 1, 28, #[.bool false, .slice none 0 0, .int .i64 0, .bool false, .slice none 0 0, .int .i64 0])] ∧ Hid (ArgR j m e n f))
    case atStart => exact ⟨0, m, e, n, f, A6, B6, c6, d6, by omega, L.subx (by simp) (by simp), HR⟩
    case round =>
      clear L HR
      obtain ⟨j, m, e, n, f, A6, B6, c6, d6, hjk, L, HR⟩ := hrel
      obtain ⟨sm1, sm2⟩ := HR.out.small (by omega)
      have zm := HR.out.zm
      have zn := HR.out.zn
      have t1 := fun x W h => rtop_any m e x W h (by omega) (by omega)
      have t2 := fun x W h => rtop_any n f x W h (by omega) (by omega)
      have k1 := fun x W h => rshift8_any m e (-20) x W h (by omega) (by omega) (by omega)
      have k2 := fun x W h => rshift8_any n f (-20) x W h (by omega) (by omega) (by omega)
      have hmore := HR.out.more hfar.1
      have hst := HR.out.step (show j ≤ 40 by omega)
      obtain ⟨T1, hT1⟩ : ∃ z, topZ m e = z := ⟨_, rfl⟩
      rw [hT1] at t1 hmore
      obtain ⟨T2, hT2⟩ : ∃ z, topZ n f = z := ⟨_, rfl⟩
      rw [hT2] at t2 hmore
      obtain ⟨M9, hM9⟩ : ∃ z, mkM m (e + -20) = z := ⟨_, rfl⟩
      rw [hM9] at k1 hst
      obtain ⟨E9, hE9⟩ : ∃ z, mkE m (e + -20) = z := ⟨_, rfl⟩
      rw [hE9] at k1 hst
      obtain ⟨R9, hR9⟩ : ∃ z, mkR m (e + -20) = z := ⟨_, rfl⟩
      rw [hR9] at k1
      obtain ⟨N9, hN9⟩ : ∃ z, mkM n (f + -20) = z := ⟨_, rfl⟩
      rw [hN9] at k2 hst
      obtain ⟨F9, hF9⟩ : ∃ z, mkE n (f + -20) = z := ⟨_, rfl⟩
      rw [hF9] at k2 hst
      obtain ⟨R8, hR8⟩ : ∃ z, mkR n (f + -20) = z := ⟨_, rfl⟩
      rw [hR8] at k2
      have HT1 := Lib.hid t1
      have HT2 := Lib.hid t2
      have HK1 := Lib.hid k1
      have HK2 := Lib.hid k2
      have HTE := Lib.hid (And.intro hT1 hT2)
      have HST := Lib.hid hst
      have hl0 := L.b0.lt
      clear t1 t2 k1 k2 hT1 hT2 hM9 hE9 hR9 hN9 hF9 hR8 hst sm1 sm2 zm zn
      rcases Int.lt_or_le far T1 with q1 | q1
      · have hj := hmore (Or.inl q1)
        have d1 : decide (far < T1) = true := decide_eq_true q1
        have cel00 := L.b0.c60
        have cel01 := L.b0.c61
        have cel02 := L.b0.c62
        have cel03 := L.b0.c63
        have cel04 := L.b0.c64
        have cel05 := L.b0.c65
        go_wp2_with fail
        refine (HT1.out _ _ (isD_n (m := m) (e := e) (s := .slice A6 (zl m) c6) (L.getN (by simp)))).mono ?_
        rintro e w21 ⟨rfl, be⟩
        clear cel00 cel01 cel02 cel03 cel04 cel05
        replace L := L.step be
        clear be
        have cel00 := L.b0.c60
        have cel01 := L.b0.c61
        have cel02 := L.b0.c62
        have cel03 := L.b0.c63
        have cel04 := L.b0.c64
        have cel05 := L.b0.c65
        (try go_wp2_with fail)
        refine (HK1.out _ _ (isD_n (m := m) (e := e) (s := .slice A6 (zl m) c6) (L.getN (by simp)))).mono ?_
        rintro e w22 ⟨vv, rfl, id, be⟩
        clear cel00 cel01 cel02 cel03 cel04 cel05
        obtain ⟨A7, c7, rfl, _, in9⟩ := id.form
        replace L := (L.step be).n in9
        clear be id in9
        have cel00 := L.b0.c60
        have f00 := L.b0.fr 0
        have cel01 := L.b0.c61
        have f01 := L.b0.fr 1
        have cel02 := L.b0.c62
        have f02 := L.b0.fr 2
        have cel03 := L.b0.c63
        have f03 := L.b0.fr 3
        have cel04 := L.b0.c64
        have f04 := L.b0.fr 4
        have cel05 := L.b0.c65
        have f05 := L.b0.fr 5
        have P := L.putLo (by omega) (by simp; omega) (ng M9) A7 (zl M9) c7 E9
        have p0 := P.b0.c60
        have p1 := P.b0.c61
        have p2 := P.b0.c62
        have p3 := P.b0.c63
        have p4 := P.b0.c64
        have p5 := P.b0.c65
        go_wp2_with fail
        replace L := P
        clear P p0 p1 p2 p3 p4 p5
        clear cel00 f00 cel01 f01 cel02 f02 cel03 f03 cel04 f04 cel05 f05
        refine (HK2.out _ _ (isD_n (m := n) (e := f) (s := .slice B6 (zl n) d6) (L.getN (by simp)))).mono ?_
        rintro e w23 ⟨vv, rfl, id, be⟩
        obtain ⟨A8, c8, rfl, _, in9⟩ := id.form
        replace L := (L.step be).n in9
        clear be id in9
        have cel00 := L.b0.c60
        have f00 := L.b0.fr 0
        have cel01 := L.b0.c61
        have f01 := L.b0.fr 1
        have cel02 := L.b0.c62
        have f02 := L.b0.fr 2
        have cel03 := L.b0.c63
        have f03 := L.b0.fr 3
        have cel04 := L.b0.c64
        have f04 := L.b0.fr 4
        have cel05 := L.b0.c65
        have f05 := L.b0.fr 5
        have P := L.putHi (by omega) (by simp; omega) (ng N9) A8 (zl N9) c8 F9
        go_wp2_with fail
        go_roundg (gk - 1)
        case measure => omega
        case rel => exact ⟨j + 1, M9, E9, N9, F9, A7, A8, c7, c8, by omega, P.subx (by simp) (by simp), HST⟩
      · have d1 : decide (far < T1) = false := decide_eq_false (by omega)
        have cel00 := L.b0.c60
        have cel01 := L.b0.c61
        have cel02 := L.b0.c62
        have cel03 := L.b0.c63
        have cel04 := L.b0.c64
        have cel05 := L.b0.c65
        go_wp2_with fail
        refine (HT1.out _ _ (isD_n (m := m) (e := e) (s := .slice A6 (zl m) c6) (L.getN (by simp)))).mono ?_
        rintro e w21 ⟨rfl, be⟩
        clear cel00 cel01 cel02 cel03 cel04 cel05
        replace L := L.step be
        clear be
        have cel00 := L.b0.c60
        have cel01 := L.b0.c61
        have cel02 := L.b0.c62
        have cel03 := L.b0.c63
        have cel04 := L.b0.c64
        have cel05 := L.b0.c65
        (try go_wp2_with fail)
        refine (HT2.out _ _ (isD_n (m := n) (e := f) (s := .slice B6 (zl n) d6) (L.getN (by simp)))).mono ?_
        rintro e w22 ⟨rfl, be⟩
        clear cel00 cel01 cel02 cel03 cel04 cel05
        replace L := L.step be
        clear be
        rcases Int.lt_or_le far T2 with q2 | q2
        · have hj := hmore (Or.inr q2)
          have d2 : decide (far < T2) = true := decide_eq_true q2
          have cel00 := L.b0.c60
          have cel01 := L.b0.c61
          have cel02 := L.b0.c62
          have cel03 := L.b0.c63
          have cel04 := L.b0.c64
          have cel05 := L.b0.c65
          (try go_wp2_with fail)
          refine (HK1.out _ _ (isD_n (m := m) (e := e) (s := .slice A6 (zl m) c6) (L.getN (by simp)))).mono ?_
          rintro e w23 ⟨vv, rfl, id, be⟩
          clear cel00 cel01 cel02 cel03 cel04 cel05
          obtain ⟨A7, c7, rfl, _, in9⟩ := id.form
          replace L := (L.step be).n in9
          clear be id in9
          have cel00 := L.b0.c60
          have f00 := L.b0.fr 0
          have cel01 := L.b0.c61
          have f01 := L.b0.fr 1
          have cel02 := L.b0.c62
          have f02 := L.b0.fr 2
          have cel03 := L.b0.c63
          have f03 := L.b0.fr 3
          have cel04 := L.b0.c64
          have f04 := L.b0.fr 4
          have cel05 := L.b0.c65
          have f05 := L.b0.fr 5
          have P := L.putLo (by omega) (by simp; omega) (ng M9) A7 (zl M9) c7 E9
          have p0 := P.b0.c60
          have p1 := P.b0.c61
          have p2 := P.b0.c62
          have p3 := P.b0.c63
          have p4 := P.b0.c64
          have p5 := P.b0.c65
          go_wp2_with fail
          replace L := P
          clear P p0 p1 p2 p3 p4 p5
          clear cel00 f00 cel01 f01 cel02 f02 cel03 f03 cel04 f04 cel05 f05
          refine (HK2.out _ _ (isD_n (m := n) (e := f) (s := .slice B6 (zl n) d6) (L.getN (by simp)))).mono ?_
          rintro e w24 ⟨vv, rfl, id, be⟩
          obtain ⟨A8, c8, rfl, _, in9⟩ := id.form
          replace L := (L.step be).n in9
          clear be id in9
          have cel00 := L.b0.c60
          have f00 := L.b0.fr 0
          have cel01 := L.b0.c61
          have f01 := L.b0.fr 1
          have cel02 := L.b0.c62
          have f02 := L.b0.fr 2
          have cel03 := L.b0.c63
          have f03 := L.b0.fr 3
          have cel04 := L.b0.c64
          have f04 := L.b0.fr 4
          have cel05 := L.b0.c65
          have f05 := L.b0.fr 5
          have P := L.putHi (by omega) (by simp; omega) (ng N9) A8 (zl N9) c8 F9
          go_wp2_with fail
          go_roundg (gk - 1)
          case measure => omega
          case rel => exact ⟨j + 1, M9, E9, N9, F9, A7, A8, c7, c8, by omega, P.subx (by simp) (by simp), HST⟩
        · have d2 : decide (far < T2) = false := decide_eq_false (by omega)
          have cel00 := L.b0.c60
          have cel01 := L.b0.c61
          have cel02 := L.b0.c62
          have cel03 := L.b0.c63
          have cel04 := L.b0.c64
          have cel05 := L.b0.c65
          have LS := L.subx (ns' := [(.slice A6 (zl m) c6, m.natAbs), (.slice B6 (zl n) d6, n.natAbs)]) (bs' := [(w.heap.size + 1, 28, #[.bool false, .slice none 0 0, .int .i64 0, .bool false, .slice none 0 0, .int .i64 0])]) (by simp) (by simp)
          have s0 := LS.b0.c60
          have r0 := LS.b0.fr 0
          have s1 := LS.b0.c61
          have r1 := LS.b0.fr 1
          have s2 := LS.b0.c62
          have r2 := LS.b0.fr 2
          have s3 := LS.b0.c63
          have r3 := LS.b0.fr 3
          have s4 := LS.b0.c64
          have r4 := LS.b0.fr 4
          have s5 := LS.b0.c65
          have r5 := LS.b0.fr 5
          go_wp2_with fail
          have LP := LS.putI (by omega) (by simp) (ng m) A6 (zl m) c6 e (ng n) B6 (zl n) d6 f
          have k0 := LP.b0.c60
          have k1 := LP.b0.c61
          have k2 := LP.b0.c62
          have k3 := LP.b0.c63
          have k4 := LP.b0.c64
          have k5 := LP.b0.c65
          unfold put6 at k0 k1 k2 k3 k4 k5
          exact bodyPost_ret (v := .tuple #[.agg #[.bool (ng m), .slice A6 (zl m) c6, .int .i64 e, .bool (ng n), .slice B6 (zl n) d6, .int .i64 f], .bool true]) (by simp [results, Tryz.results11, go_sem, k0, k1, k2, k3, k4, k5]) rfl ⟨_, _, m, e, n, f, rfl, isI_n (LP.getN (by simp)) (LP.getN (by simp)), LP.below, (fun _ => ⟨j, by omega, HR.out, by rw [HTE.out.1]; exact q1, by rw [HTE.out.2]; exact q2⟩)⟩

/-- An argument of a law: valid, not long, and less than 2^B. -/
structure ArgX (B m e n f : Int) : Prop where
  vm : Dv m e
  vn : Dv n f
  le : dq m e ≤ dq n f
  zm : zl m ≤ 60
  zn : zl n ≤ 60
  em : -3000 ≤ e ∧ e ≤ 3000
  en : -3000 ≤ f ∧ f ≤ 3000
  lo : -dq 1 B ≤ dq m e
  hi : dq n f ≤ dq 1 B
theorem ArgX.of {j : Nat} {m e n f B : Int} (h : ArgR j m e n f) (hj : j ≤ 13) (t1 : topZ m e ≤ B) (t2 : topZ n f ≤ B) : ArgX B m e n f := by
  obtain ⟨s1, s2⟩ := h.small (by omega)
  obtain ⟨a1, _⟩ := top_bd m e
  obtain ⟨_, b2⟩ := top_bd n f
  exact ⟨h.vm, h.vn, h.le, Nat.le_trans h.zm (by omega), Nat.le_trans h.zn (by omega), by omega, by omega, Rat.le_trans (Rat.neg_le_neg (dq_anti t1)) a1, Rat.le_trans b2 (dq_anti t2)⟩
theorem ArgX.all {B m e n f : Int} (h : ArgX B m e n f) (hB : B ≤ 8) : smallB m e n f = true ∧ topZ m e ≤ 11 ∧ topZ n f ≤ 11 ∧ -256 ≤ dq m e ∧ dq n f ≤ 256 := by
  have v8 : dq 1 8 = 256 := by decide +kernel
  have v11 : dq 1 11 = 2048 := by decide +kernel
  have hb := dq_anti hB
  rw [v8] at hb
  have l1 : -256 ≤ dq m e := Rat.le_trans (Rat.neg_le_neg hb) h.lo
  have l2 : dq n f ≤ 256 := Rat.le_trans h.hi hb
  have l3 := h.le
  have tm : topZ m e ≤ 11 := by
    refine (top_iff (by omega)).2 ?_
    rw [v11]
    generalize dq m e = p at *
    generalize dq n f = q at *
    clear h hb
    constructor <;> grind
  have tn : topZ n f ≤ 11 := by
    refine (top_iff (by omega)).2 ?_
    rw [v11]
    generalize dq m e = p at *
    generalize dq n f = q at *
    clear h hb
    constructor <;> grind
  have em := h.em
  have en := h.en
  exact ⟨small14 h.zm h.zn (by omega) (by omega) ((dcm_le _ _ _ _).2 h.le) (by omega) (by omega), tm, tn, l1, l2⟩
theorem ArgX.to200 {B m e n f : Int} (h : ArgX B m e n f) (hB : B ≤ 7) : dq n f ≤ 200 := by
  have v7 : dq 1 7 = 128 := by decide +kernel
  have hb := dq_anti hB
  rw [v7] at hb
  refine Rat.le_trans h.hi (Rat.le_trans hb ?_)
  decide
/-- Thin of an argument. -/
theorem ArgX.thin {j : Nat} {m e n f B : Int} (h : ArgR j m e n f) (hj : j ≤ 13) (t1 : topZ m e ≤ B) (t2 : topZ n f ≤ B) : (zl m ≤ 3 ∧ zl n ≤ 3 ∧ (-400 ≤ e ∧ e ≤ 300) ∧ (-400 ≤ f ∧ f ≤ 300) ∧ dcm m e n f ≤ 0) ∧ ArgX B m e (thN m e n f 30) (thF m e n f 30) := by
  have hx := ArgX.of h hj t1 t2
  have b1 : -400 ≤ e ∧ e ≤ 300 := by
    rcases h.em with h1 | h1
    · have := dv_zero h.vm h1; omega
    · omega
  have b2 : -400 ≤ f ∧ f ≤ 300 := by
    rcases h.en with h1 | h1
    · have := dv_zero h.vn h1; omega
    · omega
  have hd := (dcm_le m e n f).2 h.le
  obtain ⟨_, _, _, z2, z3, z4, z5, z6⟩ := thin14_ok (j := 30) (by omega) h.zm h.zn b1 b2 hd h.vn
  exact ⟨⟨h.zm, h.zn, b1, b2, hd⟩, ⟨h.vm, z6, (dcm_le _ _ _ _).1 z4, hx.zm, z2, hx.em, z3, hx.lo, Rat.le_trans z5 hx.hi⟩⟩
theorem isI_p {w : World} {s t : Value} {m e n f : Int} (h0 : ng m = false) (h : IsN w s m.natAbs) (h2 : IsN w t n.natAbs) : IsI w (.agg #[.bool false, s, .int .i64 e, .bool (ng n), t, .int .i64 f]) m e n f := by
  rw [← h0]
  exact isI_n h h2
/-- The mantissa of a number that is not negative. -/
theorem ng_mk {a : Int} {k j : Nat} (h0 : 0 ≤ a) (h : AbP a j) (hj : j ≤ 3000) (hk : k ≤ 3000) : ng (mkM a (-(k : Int))) = false := by
  obtain ⟨_, _, _, _, h5⟩ := np h hj hk
  unfold ng
  refine decide_eq_false fun hlt => ?_
  have h1 := (dq_le_iff 0 a (-(k : Int))).2 h0
  rw [dq_zero, ← h5, dq_scale] at h1
  have h2 := dq_pos (mkE a (-(k : Int)))
  have h3 : ((mkM a (-(k : Int)) : Int) : Rat) < 0 := Rat.intCast_lt_intCast.2 hlt
  generalize ((mkM a (-(k : Int)) : Int) : Rat) = p at *
  generalize dq 1 (mkE a (-(k : Int))) = q at *
  have h4 := Rat.mul_pos (show 0 < -p by grind) h2
  grind


section
open Go.ChangeShapes Go.WideShapes Go.ChangeAt

theorem open_slice8 {H : Type} {enc : TypeId × Value → H} {W : World} {base : Nat} {fuel : Nat} {v : Value} {x : DataW H × List MemPlace} (h : DataW.trod enc Tryz.prog W base (fun _ => true) true fuel 22 [v] = some x) : ∃ a n c l, v = .slice a n c ∧ Sl W a n c l := by
  rcases open_ints Tryz.underlying22 Tryz.underlying129 (by kernel_rfl) h with ⟨hcs, _⟩ | ⟨x, l, c, zs, hcs, _, hl, hm, hz, _, hcell, hwz⟩
  · exact ⟨none, 0, 0, [], by simpa using hcs, Sl.nil W⟩
  · exact ⟨_, _, _, _, by simpa using hcs, sl_of_ints hl hm (by simpa using hz) hcell hwz⟩
theorem open_dy {H : Type} {enc : TypeId × Value → H} {W : World} {r : Reach} {b0 base : Nat} {v : Value} {d : DataW H} {p : List MemPlace} (hv : Value.okWide Tryz.prog W r b0 26 v) (h : DataW.Trod enc Tryz.prog W base (fun _ => true) true 26 v d p) :
    ∃ b A n c l e, v = .agg #[.bool b, .slice A n c, .int .i64 e] ∧ Sl W A n c l ∧ -9223372036854775808 ≤ e ∧ e ≤ 9223372036854775807 := by
  obtain ⟨cs, rfl, hsz⟩ := okWide_struct Tryz.underlying26 hv
  obtain ⟨c0, c1, c2, rfl⟩ := Go.Joins.array3 (hsz.trans (show Tryz.prog.cellsOf 26 = 3 by kernel_rfl))
  obtain ⟨fuel, hf⟩ := h
  obtain ⟨y0, y1, n, _, _, h0, h1⟩ := trod_struct2 Tryz.underlying26 hf
  have e0 : Tryz.prog.cellsOf 24 = 2 := by kernel_rfl
  have e1 : Tryz.prog.cellsOf 22 = 1 := by kernel_rfl
  have e3 : Tryz.prog.cellsOf 3 = 1 := by kernel_rfl
  have h0' : DataW.trod enc Tryz.prog W base (fun _ => true) true n 24 [c0, c1] = some y0 := by
    simpa [Value.cells, e0] using h0
  have h1' : DataW.trod enc Tryz.prog W base (fun _ => true) true n 3 [c2] = some y1 := by
    simpa [Value.cells, e3] using h1
  obtain ⟨z0, z1, n2, _, _, g0, g1⟩ := trod_struct2 Tryz.underlying24 h0'
  have e2 : Tryz.prog.cellsOf 4 = 1 := by kernel_rfl
  have g0' : DataW.trod enc Tryz.prog W base (fun _ => true) true n2 4 [c0] = some z0 := by
    simpa [e2] using g0
  have g1' : DataW.trod enc Tryz.prog W base (fun _ => true) true n2 22 [c1] = some z1 := by
    simpa [e1] using g1
  obtain ⟨b, hb, _⟩ := DataW.trod_bool Tryz.underlying4 g0'
  obtain rfl : c0 = .bool b := by simpa using hb
  obtain ⟨A, n3, c3, l, rfl, s1⟩ := open_slice8 g1'
  obtain ⟨e, he, _, hw⟩ := DataW.trod_int Tryz.underlying3 h1'
  obtain rfl : c2 = .int .i64 e := by simpa using he
  obtain ⟨k1, k2⟩ := bounds_i64 hw
  exact ⟨b, A, n3, c3, l, e, rfl, s1, k1, k2⟩

end
section
open Go.ChangeShapes Go.WideShapes Go.ChangeAt

theorem array6 {a : Array Value} (h : a.size = 6) : ∃ x0 x1 x2 x3 x4 x5, a = #[x0, x1, x2, x3, x4, x5] := by
  obtain ⟨l⟩ := a
  rcases l with _ | ⟨x0, _ | ⟨x1, _ | ⟨x2, _ | ⟨x3, _ | ⟨x4, _ | ⟨x5, _ | ⟨x6, l⟩⟩⟩⟩⟩⟩⟩ <;> first | exact ⟨_, _, _, _, _, _, rfl⟩ | (exfalso; simp at h)
theorem open_dy3 {H : Type} {enc : TypeId × Value → H} {W : World} {base n : Nat} {c0 c1 c2 : Value} {y : DataW H × List MemPlace} (h : DataW.trod enc Tryz.prog W base (fun _ => true) true n 26 [c0, c1, c2] = some y) :
    ∃ b A p c l e, c0 = .bool b ∧ c1 = .slice A p c ∧ c2 = .int .i64 e ∧ Sl W A p c l ∧ -9223372036854775808 ≤ e ∧ e ≤ 9223372036854775807 := by
  obtain ⟨y0, y1, n, _, _, h0, h1⟩ := trod_struct2 Tryz.underlying26 h
  have e0 : Tryz.prog.cellsOf 24 = 2 := by kernel_rfl
  have e1 : Tryz.prog.cellsOf 22 = 1 := by kernel_rfl
  have e3 : Tryz.prog.cellsOf 3 = 1 := by kernel_rfl
  have h0' : DataW.trod enc Tryz.prog W base (fun _ => true) true n 24 [c0, c1] = some y0 := by
    simpa [Value.cells, e0] using h0
  have h1' : DataW.trod enc Tryz.prog W base (fun _ => true) true n 3 [c2] = some y1 := by
    simpa [Value.cells, e0, e3] using h1
  obtain ⟨z0, z1, n2, _, _, g0, g1⟩ := trod_struct2 Tryz.underlying24 h0'
  have e2 : Tryz.prog.cellsOf 4 = 1 := by kernel_rfl
  have g0' : DataW.trod enc Tryz.prog W base (fun _ => true) true n2 4 [c0] = some z0 := by
    simpa [e2] using g0
  have g1' : DataW.trod enc Tryz.prog W base (fun _ => true) true n2 22 [c1] = some z1 := by
    simpa [e1, e2] using g1
  obtain ⟨b, hb, _⟩ := DataW.trod_bool Tryz.underlying4 g0'
  obtain rfl : c0 = .bool b := by simpa using hb
  obtain ⟨A, n3, c3, l, rfl, s1⟩ := open_slice8 g1'
  obtain ⟨e, he, _, hw⟩ := DataW.trod_int Tryz.underlying3 h1'
  obtain rfl : c2 = .int .i64 e := by simpa using he
  obtain ⟨k1, k2⟩ := bounds_i64 hw
  exact ⟨b, A, n3, c3, l, e, rfl, rfl, rfl, s1, k1, k2⟩
theorem open_iv {H : Type} {enc : TypeId × Value → H} {W : World} {r : Reach} {b0 base : Nat} {v : Value} {d : DataW H} {p : List MemPlace} (hv : Value.okWide Tryz.prog W r b0 28 v) (h : DataW.Trod enc Tryz.prog W base (fun _ => true) true 28 v d p) :
    ∃ b A n c l e b' A' n' c' l' e', v = .agg #[.bool b, .slice A n c, .int .i64 e, .bool b', .slice A' n' c', .int .i64 e'] ∧ (Sl W A n c l ∧ -9223372036854775808 ≤ e ∧ e ≤ 9223372036854775807) ∧ (Sl W A' n' c' l' ∧ -9223372036854775808 ≤ e' ∧ e' ≤ 9223372036854775807) := by
  obtain ⟨cs, rfl, hsz⟩ := okWide_struct Tryz.underlying28 hv
  obtain ⟨c0, c1, c2, c3, c4, c5, rfl⟩ := array6 (hsz.trans (show Tryz.prog.cellsOf 28 = 6 by kernel_rfl))
  obtain ⟨fuel, hf⟩ := h
  obtain ⟨y0, y1, n, _, _, h0, h1⟩ := trod_struct2 Tryz.underlying28 hf
  have e0 : Tryz.prog.cellsOf 26 = 3 := by kernel_rfl
  have h0' : DataW.trod enc Tryz.prog W base (fun _ => true) true n 26 [c0, c1, c2] = some y0 := by
    simpa [Value.cells, e0] using h0
  have h1' : DataW.trod enc Tryz.prog W base (fun _ => true) true n 26 [c3, c4, c5] = some y1 := by
    simpa [Value.cells, e0] using h1
  obtain ⟨b, A, n1, k, l, e, rfl, rfl, rfl, q1⟩ := open_dy3 h0'
  obtain ⟨b', A', n1', k', l', e', rfl, rfl, rfl, q2⟩ := open_dy3 h1'
  exact ⟨b, A, n1, k, l, e, b', A', n1', k', l', e', rfl, q1, q2⟩

end

end Go.Proofs.YtnnfldkllhdhjaaGreatDoor
