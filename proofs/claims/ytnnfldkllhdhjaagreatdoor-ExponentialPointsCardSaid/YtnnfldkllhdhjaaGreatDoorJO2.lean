/- Joined: ExPB, ExPW, ExY, RdA, RdB, ExPC, ExF, RefCoC, RefCoD, ExQ, RefExE, ExH, MillAr, ExK, IvPE, ExPE, Awake14, ExG, ExL, CpD, CpA, CpB (what the law leans on). -/
import Derived.Test.YtnnfldkllhdhjaaGreatDoorBaseJO
import Derived.Test.YtnnfldkllhdhjaaGreatDoorBaseDO
import Derived.Test.YtnnfldkllhdhjaaGreatDoorBaseEO
import Derived.Test.YtnnfldkllhdhjaaGreatDoorBaseMO
import Derived.Test.YtnnfldkllhdhjaaGreatDoorBaseVO
import Derived.Test.YtnnfldkllhdhjaaGreatDoorBaseSO
import Derived.Test.YtnnfldkllhdhjaaGreatDoorBaseFO
import Derived.Test.YtnnfldkllhdhjaaGreatDoorRefDivModO
import Derived.Test.YtnnfldkllhdhjaaGreatDoorBaseWO
import Derived.Test.YtnnfldkllhdhjaaGreatDoorRefGrBO
import Derived.Test.YtnnfldkllhdhjaaGreatDoorBaseXO
import Derived.Test.YtnnfldkllhdhjaaGreatDoorGrPCO
import Derived.Test.YtnnfldkllhdhjaaGreatDoorBaseZO
import Derived.Test.YtnnfldkllhdhjaaGreatDoorBaseUO
import Derived.Test.YtnnfldkllhdhjaaGreatDoorJO1
import Derived.BigQuiet
import Derived.Deep.Cut
import Derived.Deep.CutRange
import Derived.Deep.DrawnRows
import Derived.Deep.LoopGhost
import Derived.Deep.QuietTactic
import Derived.Deep.RegionHeld3
namespace Go.Proofs.YtnnfldkllhdhjaaGreatDoor
open Go.RowKit
set_option linter.unusedVariables false
set_option linter.unusedSimpArgs false
set_option maxRecDepth 100000
attribute [local go_sem ↓] Go.wp_at_zero Go.wp_at_succ

theorem np_one {p : Nat} (hp : p ≤ 3000) : mkM 1 0 = mkM (2 ^ p) (-(p : Int)) ∧ mkE 1 0 = mkE (2 ^ p) (-(p : Int)) := by
  obtain ⟨a1, _⟩ := nf (t := 1) (v := 0) (by unfold AbP; decide) (by omega)
  have e : ((2 : Int) ^ p).natAbs = 2 ^ p := by rw [Int.natAbs_pow]; rfl
  obtain ⟨b1, _⟩ := np (T := 2 ^ p) (p := p) (j := p) (Nat.le_of_eq e) hp hp
  exact mk_uniq a1 b1 (by rw [dq_onep]; rfl)
/-- What the sum returns. -/
def RetSm (w : World) (X : Int) (p : Nat) (en : Ending) (w' : World) : Prop := ∃ S k, ExR X p k 0 S ∧ RetD8 w (mkM S (-(p : Int))) (mkE S (-(p : Int))) en w'
theorem ExR.sz {X : Int} {p k : Nat} {T S : Int} (h : ExR X p k T S) (hp : p ≤ 700) : AbP T p ∧ AbP S (p + 6) ∧ k ≤ 60 := by
  have h1 := h.fk
  have h2 := h.sa
  refine ⟨h.ta, ?_, by omega⟩
  unfold AbP
  rw [Nat.pow_add, show (2 : Nat) ^ 6 = 64 by decide, Nat.mul_comm]
  exact Nat.le_trans h2 (Nat.mul_le_mul_right _ (by omega))

set_option maxHeartbeats 16000000 in
theorem xsum_any (F : Nat) (hen : ∀ args w, (callFunc F args).run Tryz.prog w = .ok (.enter F args) w) (X : Int) (p : Nat) (recv : Value) (w : World) (hX : X.natAbs * 2 ^ 32 ≤ 2 ^ p) (hp : p ≤ 700) (hT : Tab w) (hf : ∀ (k : Nat) (T : Int) vt W, IsD W vt (mkM T (-(p : Int))) (mkE T (-(p : Int))) → AbP T p → 1 ≤ k → k ≤ 1000 → Below w.heap.size w W → Calls Tryz.prog F #[recv, vt, .int .i64 (k : Int)] W (RetD8 W (mkM (pwT X p k T) (-(p : Int))) (mkE (pwT X p k T) (-(p : Int))))) :
    Calls Tryz.prog 110 #[.func (.func F) #[recv] #[]] w (RetSm w X p) := by
  have HT := Lib.hid (fun W (hW : Below w.heap.size w W) => hT.mono hW)
  have g1 := fun W (hW : Below w.heap.size w W) => dof_any 1 W (by omega) (by omega) (hT.mono hW)
  obtain ⟨o1, o2⟩ := np_one (p := p) (by omega)
  rw [o1, o2] at g1
  have HR0 := ExR.first X p
  obtain ⟨P, hP⟩ : ∃ z, (2 : Int) ^ p = z := ⟨_, rfl⟩
  rw [hP] at g1 HR0
  obtain ⟨M, hM⟩ : ∃ z, mkM P (-(p : Int)) = z := ⟨_, rfl⟩
  obtain ⟨E, hE⟩ : ∃ z, mkE P (-(p : Int)) = z := ⟨_, rfl⟩
  rw [hM, hE] at g1
  have HR := Lib.hid (And.intro HR0 (And.intro (And.intro hM hE) (And.intro hM hE)))
  have G1 := Lib.hid g1
  have HF := Lib.hid hf
  have HX := Lib.hid hX
  have HV := Lib.hid hp
  clear g1 hf hX hp hT HR0 hM hE hP o1 o2
  go_enter Tryz.func110, Tryz.ntmps110
  have L := ((Lq.mk0 w).varD (w.heap.size) (by simp) false none 0 0 0)
  (try go_wp2_with fail)
  refine (G1.out _ L.below).mono ?_
  rintro e w1 ⟨v9, rfl, iz, be⟩
  obtain ⟨A1, c1, rfl, _, in9⟩ := iz.form
  replace L := (L.step be).n in9
  clear be iz in9
  have hl9 := L.b0.lt
  replace L := L.varD w1.heap.size rfl (ng M) A1 (zl M) c1 E
  have c00 := L.b0.c30
  have c01 := L.b0.c31
  have c02 := L.b0.c32
  replace L := L.varD (w1.heap.size + 1) (by simp) (ng M) A1 (zl M) c1 E
  have d00 := L.b0.c30
  have d01 := L.b0.c31
  have d02 := L.b0.c32
  go_wp2_with fail
  clear c00 c01 c02 d00 d01 d02 G1
  obtain ⟨gt, hgt⟩ : ∃ g9, w1.heap.size = g9 := ⟨_, rfl⟩
  rw [hgt] at L hl9 ⊢
  clear hgt
  go_loopw [5] (fun i wr => ∃ (k : Nat) (T S M E N K : Int) (A1 A2 : Option Addr) (c1 c2 : Nat), i = .int .i64 (k : Int) ∧ Lq w wr [(.slice A1 (zl M) c1, M.natAbs), (.slice A2 (zl N) c2, N.natAbs)] [] [] [(gt + 1, 26, #[.bool (ng N), .slice A2 (zl N) c2, .int .i64 K]), (gt, 26, #[.bool (ng M), .slice A1 (zl M) c1, .int .i64 E]), (w.heap.size, 26, #[.bool false, .slice none 0 0, .int .i64 0])] ∧ Hid (ExR X p k T S ∧ (mkM T (-(p : Int)) = M ∧ mkE T (-(p : Int)) = E) ∧ mkM S (-(p : Int)) = N ∧ mkE S (-(p : Int)) = K)) (fun i _ => 100 - (intOf i).toNat)
  case atStart => exact ⟨1, P, P, M, E, M, E, A1, A1, c1, c1, by go_num, L.subx (by simp) (by simp), HR⟩
  case round =>
    clear L HR
    obtain ⟨k, T, S, M, E, N, K, A1, A2, c1, c2, rfl, L, HR⟩ := hrel
    obtain ⟨hI, ⟨hM, hE⟩, hN, hK⟩ := HR.out
    have hp := HV.out
    obtain ⟨zt, zs, hk⟩ := hI.sz hp
    obtain ⟨a1, a2, a3, a4, a5⟩ := np zt (by omega) (show p ≤ 3000 by omega)
    have r5 := np_sign zt (by omega) (show p ≤ 3000 by omega)
    have g2 := fun x W h => dsign_any (mkM T (-(p : Int))) (mkE T (-(p : Int))) x W h (by omega)
    rw [hM, hE] at g2
    rw [hM] at r5
    obtain ⟨sg9, hsg9⟩ : ∃ z, cmpI M 0 = z := ⟨_, rfl⟩
    rw [hsg9] at g2 r5
    have G2 := Lib.hid g2
    have HI := Lib.hid hI
    have HZ := Lib.hid (And.intro zt zs)
    clear g2 a1 a2 a3 a4 a5 hsg9 zt zs hp hI
    have hl0 := L.tl.b0.lt
    replace L := L.swap
    have cel00 := L.b0.c30
    have cel01 := L.b0.c31
    have cel02 := L.b0.c32
    (try go_wp2_with fail)
    refine (G2.out _ _ (isD_n (m := M) (e := E) (s := .slice A1 (zl M) c1) (L.getN (by simp)))).mono ?_
    rintro e w11 ⟨rfl, be⟩
    clear cel00 cel01 cel02
    replace L := L.step be
    clear be
    by_cases h0 : T = 0
    · subst h0
      have r6 : (sg9 != 0) = false := r5.trans (by simp)
      have hq := HI.out
      clear r5 HI HR HF HX HZ hM hE
      have L9 := L.subx (ns' := [(.slice A2 (zl N) c2, N.natAbs)]) (bs' := [(w.heap.size, 26, #[.bool false, .slice none 0 0, .int .i64 0]), (gt + 1, 26, #[.bool (ng N), .slice A2 (zl N) c2, .int .i64 K])]) (by simp) (by simp)
      clear L
      have L := L9
      clear L9
      have cel00 := L.b0.c30
      have f00 := L.b0.fr 0
      have cel01 := L.b0.c31
      have f01 := L.b0.fr 1
      have cel02 := L.b0.c32
      have f02 := L.b0.fr 2
      have cel10 := L.tl.b0.c30
      have cel11 := L.tl.b0.c31
      have cel12 := L.tl.b0.c32
      (try go_wp2_with fail)
      clear cel00 f00 cel01 f01 cel02 f02 cel10 cel11 cel12
      subst hN hK
      have LP := L.putD (by omega) (by first | (simp; done) | (simp; omega)) (ng (mkM S (-(p : Int)))) A2 (zl (mkM S (-(p : Int)))) c2 (mkE S (-(p : Int)))
      have k0 := LP.b0.c30
      have k1 := LP.b0.c31
      have k2 := LP.b0.c32
      unfold put3 at k0 k1 k2
      exact bodyPost_ret (v := .agg #[.bool (ng (mkM S (-(p : Int)))), .slice A2 (zl (mkM S (-(p : Int)))) c2, .int .i64 (mkE S (-(p : Int)))]) (by simp [results, Tryz.results110, go_sem, k0, k1, k2]) rfl ⟨S, k, hq, _, rfl, isD_n (LP.getN (by simp)), LP.below⟩
    · have r6 : (sg9 != 0) = true := r5.trans (decide_eq_true h0)
      have hI := HI.out
      have hX := HX.out
      have hp := HV.out
      obtain ⟨zt, zs⟩ := HZ.out
      have hI2 := hI.step hX h0
      obtain ⟨zt2, zs2, hk2⟩ := hI2.sz hp
      have g3 := fun vt W h1 h2 => HF.out k T vt W h1 zt hI.k1 (by omega) h2
      have zu := zt2.up (show p ≤ p + 6 by omega)
      obtain ⟨_, b2, b3, _, _⟩ := np zs (by omega) (show p ≤ 3000 by omega)
      obtain ⟨_, d2, d3, _, _⟩ := np zu (by omega) (show p ≤ 3000 by omega)
      obtain ⟨a1, a2, a3⟩ := np_add zs zu (by omega) (show p ≤ 2900 by omega)
      obtain ⟨T2, hT2⟩ : ∃ z, pwT X p k T = z := ⟨_, rfl⟩
      rw [hT2] at g3 a1 a2 a3 d2 d3 hI2
      have g4 := fun x y W h j (hW : Below w.heap.size w W) => dadd_any (mkM S (-(p : Int))) (mkE S (-(p : Int))) (mkM T2 (-(p : Int))) (mkE T2 (-(p : Int))) x y W h j (by omega) (by omega) (by omega) (by omega) (HT.out W hW)
      rw [a1, a2, a3] at g4
      obtain ⟨S2, hS2⟩ : ∃ z, S + T2 = z := ⟨_, rfl⟩
      rw [hS2] at g4 hI2
      rw [hN, hK] at g4
      rw [hM, hE] at g3
      obtain ⟨M2, hM2⟩ : ∃ z, mkM T2 (-(p : Int)) = z := ⟨_, rfl⟩
      obtain ⟨E2, hE2⟩ : ∃ z, mkE T2 (-(p : Int)) = z := ⟨_, rfl⟩
      obtain ⟨N2, hN2⟩ : ∃ z, mkM S2 (-(p : Int)) = z := ⟨_, rfl⟩
      obtain ⟨K2, hK2⟩ : ∃ z, mkE S2 (-(p : Int)) = z := ⟨_, rfl⟩
      rw [hM2, hE2] at g3 g4
      rw [hN2, hK2] at g4
      have G3 := Lib.hid g3
      have G4 := Lib.hid g4
      have HQ := Lib.hid (And.intro hI2 (And.intro (And.intro hM2 hE2) (And.intro hN2 hK2)))
      have w3 : IntKind.i64.wrap ((k : Int) + 1) = (k : Int) + 1 := by rw [IntKind.wrap_i64]; omega
      clear g3 g4 hI2 hM2 hE2 hN2 hK2 hS2 hT2 a1 a2 a3 b2 b3 d2 d3 zt2 zs2 zu zt zs hI hX hp r5 HR HI HZ hM hE hN hK hk2
      have cel00 := L.b0.c30
      have f00 := L.b0.fr 0
      have cel01 := L.b0.c31
      have f01 := L.b0.fr 1
      have cel02 := L.b0.c32
      have f02 := L.b0.fr 2
      (try go_wp2_with fail)
      refine (G3.out _ _ (isD_n (m := M) (e := E) (s := .slice A1 (zl M) c1) (L.getN (by simp))) L.below).mono ?_
      rintro e w31 ⟨v9, rfl, iz, be⟩
      clear cel00 f00 cel01 f01 cel02 f02
      obtain ⟨A3, c3, rfl, _, in9⟩ := iz.form
      replace L := (L.step be).n in9
      clear be iz in9
      have cel00 := L.b0.c30
      have f00 := L.b0.fr 0
      have cel01 := L.b0.c31
      have f01 := L.b0.fr 1
      have cel02 := L.b0.c32
      have f02 := L.b0.fr 2
      have cel10 := L.tl.b0.c30
      have cel11 := L.tl.b0.c31
      have cel12 := L.tl.b0.c32
      have P := L.putD (by omega) (by simp; omega) (ng M2) A3 (zl M2) c3 E2
      have p0 := P.b0.c30
      have p1 := P.b0.c31
      have p2 := P.b0.c32
      have p3 := P.tl.b0.c30
      have p4 := P.tl.b0.c31
      have p5 := P.tl.b0.c32
      unfold put3 at p0 p1 p2 p3 p4 p5 P
      go_wp2_with fail
      replace L := P
      clear P p0 p1 p2 p3 p4 p5
      clear cel00 f00 cel01 f01 cel02 f02 cel10 cel11 cel12
      refine (G4.out _ _ _ (isD_n (m := N) (e := K) (s := .slice A2 (zl N) c2) (L.getN (by simp))) (isD_n (m := M2) (e := E2) (s := .slice A3 (zl M2) c3) (L.getN (by simp))) L.below).mono ?_
      rintro e w32 ⟨v9, rfl, iz, be⟩
      obtain ⟨A4, c4, rfl, _, in9⟩ := iz.form
      replace L := (L.step be).n in9
      clear be iz in9
      replace L := L.swap
      have cel00 := L.b0.c30
      have f00 := L.b0.fr 0
      have cel01 := L.b0.c31
      have f01 := L.b0.fr 1
      have cel02 := L.b0.c32
      have f02 := L.b0.fr 2
      have P := L.putD (by omega) (by simp; omega) (ng N2) A4 (zl N2) c4 K2
      unfold put3 at P
      go_wp2_with fail
      go_roundw
      case rel => exact ⟨k + 1, T2, S2, M2, E2, N2, K2, A3, A4, c3, c4, by go_num, P.subx (by simp) (by simp), HQ⟩
      case measure => simp [intOf]; omega

set_option maxHeartbeats 8000000 in
theorem xwhole_any (n : Int) (vx : Value) (w : World) (hx : IsD w vx (mkM n 0) (mkE n 0)) (hn : -2000000000 ≤ n ∧ n ≤ 2000000000) :
    Calls Tryz.prog 92 #[vx] w (RetI w n) := by
  have hb : AbP n 31 := by
    have e : (2 : Nat) ^ 31 = 2147483648 := by decide
    unfold AbP
    rw [e]
    omega
  obtain ⟨a1, _, a3, a4, a5, _⟩ := nf hb (by omega)
  have bz := nf_zero hb (by omega)
  have a2 : zl (mkM n 0) ≤ 1 := Nat.le_trans (zl_mk _ _) (Nat.le_trans hb.zl (by omega))
  have g1 := fun x W h => dsign_any (mkM n 0) (mkE n 0) x W h (by omega)
  obtain ⟨A, c, rfl, _, hs⟩ := hx.form
  have L0 := (Lq.mk0 w).n hs
  obtain ⟨M, hM⟩ : ∃ z, mkM n 0 = z := ⟨_, rfl⟩
  obtain ⟨k, hk⟩ : ∃ k : Nat, mkE n 0 = (k : Int) := ⟨(mkE n 0).toNat, by omega⟩
  rw [hM, hk] at g1 a5
  rw [hM] at bz a2 hs L0 ⊢
  rw [hk, show ((k : Int)).toNat = k by omega] at *
  obtain ⟨sg9, hsg9⟩ : ∃ z, cmpI M 0 = z := ⟨_, rfl⟩
  rw [hsg9] at g1
  have G1 := Lib.hid g1
  clear g1 a1 a3 a4 hx hk
  by_cases h0 : n = 0
  · subst h0
    have r6 : (sg9 == 0) = true := by rw [← hsg9, bz.2 rfl]; decide
    clear bz a2 a5 hb hs hsg9
    go_enter Tryz.func92, Tryz.ntmps92
    have L := (L0.varD (w.heap.size) (by simp) (ng M) A (zl M) c (k : Int))
    have c00 := L.b0.c30
    have c01 := L.b0.c31
    have c02 := L.b0.c32
    (try go_wp2_with fail)
    refine (G1.out _ _ (isD_n (m := M) (e := (k : Int)) (s := .slice A (zl M) c) (L.getN (by simp)))).mono ?_
    rintro e w1 ⟨rfl, be⟩
    clear c00 c01 c02
    replace L := L.step be
    clear be
    (try go_wp2_with fail)
    go_ret
    exact ⟨rfl, L.below⟩
  · have hM0 : M ≠ 0 := fun e => h0 (bz.1 e)
    have r6 : (sg9 == 0) = false := by
      rw [← hsg9]
      unfold cmpI
      (repeat' split) <;> first | rfl | omega
    have hz1 : zl M = 1 := by
      have : len M.natAbs ≠ 0 := fun e => by have := len_eq_zero e; omega
      have e : zl M = len M.natAbs := rfl
      omega
    obtain ⟨x, hx⟩ : ∃ x, M.natAbs = x := ⟨_, rfl⟩
    have hl1 : len x = 1 := by rw [← hx]; exact hz1
    have hx1 : x < 4294967296 := by
      have := lt_pow_len x
      rw [hl1] at this; unfold W32 at this; omega
    have hd := dig_of_len1 hl1
    obtain ⟨A', n', c', e9, hs'⟩ := hs
    rw [hx] at hs'
    rw [hz1] at e9 L0 ⊢
    injection e9 with e1 e2 e3
    subst e1 e2 e3
    obtain ⟨b, off, rfl, hbl, hc⟩ := hs'.place (by omega)
    have hc0 := hc 0 (by omega)
    rw [hd] at hc0
    simp only [nth, List.getD_cons_zero, Nat.add_zero] at hc0
    have hv : x * 2 ^ k = n.natAbs := by rw [← a5, Int.natAbs_mul, hx, Int.natAbs_pow]; rfl
    have hk31 : k ≤ 31 := by
      have h1 : 1 * 2 ^ k ≤ x * 2 ^ k := Nat.mul_le_mul_right _ (by omega)
      refine Nat.not_lt.1 fun hlt => ?_
      have h2 := Nat.pow_le_pow_right (n := 2) (by omega) hlt
      have e : (2 : Nat) ^ (31 + 1) = 4294967296 := by decide
      omega
    have hsg : ng M = decide (n < 0) := by
      have hp := pow2_pos k
      unfold ng
      congr 1
      refine propext ⟨fun h => ?_, fun h => ?_⟩
      · rw [← a5]
        exact Int.mul_neg_of_neg_of_pos h hp
      · refine Int.not_le.1 fun hle => ?_
        have := Int.mul_nonneg hle (Int.le_of_lt hp)
        omega
    have hxi : ((x : Nat) : Int) * 2 ^ k = (n.natAbs : Int) := by rw [← hv]; simp
    clear bz a2 a5 hb hsg9 hd hc hl1 hs' hx hz1
    rcases Int.lt_or_le n 0 with hneg | hpos
    · have hng : ng M = true := by rw [hsg, decide_eq_true hneg]
      have HN := Lib.hid hng
      clear hsg hng
      go_enter Tryz.func92, Tryz.ntmps92
      have L := (L0.varD (w.heap.size) (by simp) (ng M) (some ⟨b, off, none⟩) 1 c (k : Int))
      have c00 := L.b0.c30
      have c01 := L.b0.c31
      have c02 := L.b0.c32
      (try go_wp2_with fail)
      refine (G1.out _ _ (isD_n (m := M) (e := (k : Int)) (s := .slice (some ⟨b, off, none⟩) 1 c) (L.getN (by simp)))).mono ?_
      rintro e w1 ⟨rfl, be⟩
      clear c00 c01 c02
      replace L := L.step be
      clear be
      have c00 := L.b0.c30
      have c01 := L.b0.c31
      have c02 := L.b0.c32
      have hc1 := (L.below.cell (p := ⟨b, off, none⟩) hbl).trans hc0
      have hng := HN.out
      rw [hng] at c00
      have w1 : IntKind.i64.wrap ((x : Nat) : Int) = (x : Int) := by rw [IntKind.wrap_i64]; omega
      have w2 : IntKind.i64.wrap (n.natAbs : Int) = (n.natAbs : Int) := by rw [IntKind.wrap_i64]; omega
      have w3 : ¬ (k : Int) < 0 := by omega
      have w4 : IntKind.i64.wrap (-(n.natAbs : Int)) = -(n.natAbs : Int) := by rw [IntKind.wrap_i64]; omega
      (try go_wp2_with fail)
      go_quiet (fail)
      (try go_wp2_with fail)
      go_ret
      refine ⟨?_, belowN L.below _⟩
      show Ending.returned (.int .i64 (-(n.natAbs : Int))) = _
      rw [show -(n.natAbs : Int) = n by omega]
    · have hng : ng M = false := by rw [hsg, decide_eq_false (by omega)]
      have HN := Lib.hid hng
      clear hsg hng
      go_enter Tryz.func92, Tryz.ntmps92
      have L := (L0.varD (w.heap.size) (by simp) (ng M) (some ⟨b, off, none⟩) 1 c (k : Int))
      have c00 := L.b0.c30
      have c01 := L.b0.c31
      have c02 := L.b0.c32
      (try go_wp2_with fail)
      refine (G1.out _ _ (isD_n (m := M) (e := (k : Int)) (s := .slice (some ⟨b, off, none⟩) 1 c) (L.getN (by simp)))).mono ?_
      rintro e w1 ⟨rfl, be⟩
      clear c00 c01 c02
      replace L := L.step be
      clear be
      have c00 := L.b0.c30
      have c01 := L.b0.c31
      have c02 := L.b0.c32
      have hc1 := (L.below.cell (p := ⟨b, off, none⟩) hbl).trans hc0
      have hng := HN.out
      rw [hng] at c00
      have w1 : IntKind.i64.wrap ((x : Nat) : Int) = (x : Int) := by rw [IntKind.wrap_i64]; omega
      have w2 : IntKind.i64.wrap (n.natAbs : Int) = (n.natAbs : Int) := by rw [IntKind.wrap_i64]; omega
      have w3 : ¬ (k : Int) < 0 := by omega
      have w4 : IntKind.i64.wrap (-(n.natAbs : Int)) = -(n.natAbs : Int) := by rw [IntKind.wrap_i64]; omega
      (try go_wp2_with fail)
      go_quiet (fail)
      (try go_wp2_with fail)
      go_ret
      refine ⟨?_, belowN L.below _⟩
      show Ending.returned (.int .i64 ((n.natAbs : Int))) = _
      rw [show (n.natAbs : Int) = n by omega]

/-- How many digits a power of e has in front of its point, at most: from the ceiling of the exponent. -/
def dgN (c : Int) : Nat := if c ≤ 0 then 0 else ((3 * c + 1) / 2).toNat
theorem up_one : UpE 1 4 := (exp_up 4 (x := 1) (by decide +kernel)).up (by decide +kernel)
theorem up_two : UpE 2 8 := (exp_up 7 (x := 2) (by decide +kernel)).up (by decide +kernel)
theorem dq_add1 (a b : Int) : dq 1 (a + b) = dq 1 a * dq 1 b := by
  have := dq_mul 1 a 1 b
  rwa [Int.one_mul] at this
theorem rp_eight (j : Nat) : rp 8 j = dq 1 (3 * (j : Int)) := by
  induction j with
  | zero => rfl
  | succ j ih =>
    rw [rp_succ, ih, show 3 * ((j + 1 : Nat) : Int) = 3 * (j : Int) + 3 by omega, dq_add1]
    rfl
theorem dg_up {c : Int} {q : Rat} (h : q ≤ (c : Rat)) : UpE q (dq 1 (dgN c : Int)) := by
  unfold dgN
  by_cases hc : c ≤ 0
  · rw [if_pos hc]
    have h0 := Rat.intCast_le_intCast.2 hc
    exact (exp_0.2.mono (Rat.le_trans h h0)).up Rat.le_refl
  · rw [if_neg hc]
    obtain ⟨j, hj⟩ : ∃ j : Nat, c = 2 * (j : Int) ∨ c = 2 * (j : Int) + 1 := ⟨(c / 2).toNat, by omega⟩
    have h1 := up_two.rp j
    rw [rp_eight] at h1
    rcases hj with e | e
    · have e2 : (((3 * c + 1) / 2).toNat : Int) = 3 * (j : Int) := by omega
      rw [e2]
      refine h1.mono (Rat.le_trans h ?_)
      rw [e, Rat.intCast_mul, Rat.intCast_natCast, show ((2 : Int) : Rat) = 2 from rfl]
      grind
    · have e2 : (((3 * c + 1) / 2).toNat : Int) = 3 * (j : Int) + 2 := by omega
      rw [e2, dq_add1]
      refine (h1.add up_one).mono (Rat.le_trans h ?_)
      rw [e, Rat.intCast_add, Rat.intCast_mul, Rat.intCast_natCast, show ((2 : Int) : Rat) = 2 from rfl, show ((1 : Int) : Rat) = 1 from rfl]
      grind
theorem one_dg (n : Nat) : (1 : Rat) ≤ dq 1 (n : Int) := by
  induction n with
  | zero => exact Rat.le_refl
  | succ n ih =>
    rw [show ((n + 1 : Nat) : Int) = (n : Int) + 1 by omega, dq_add1]
    have e : dq 1 1 = 2 := rfl
    rw [e]
    grind
/-- All numbers of a call: the exponent m * 2^e, the precision w, the halvings h, the places p, the digits dg. -/
structure PwH (m e : Int) (w h p dg : Nat) : Prop where
  ep : p = w + 32 + h + dg
  up : UpE (dq m e) (dq 1 (dg : Int))
  lo : -dq 1 ((h : Int) - 64) ≤ dq m e
  hi : dq m e ≤ dq 1 ((h : Int) - 64)
  p7 : p ≤ 700
theorem dq_anti {a b : Int} (h : a ≤ b) : dq 1 a ≤ dq 1 b := by
  obtain ⟨n, rfl⟩ : ∃ n : Nat, b = a + (n : Int) := ⟨(b - a).toNat, by omega⟩
  rw [dq_add1]
  have := Rat.mul_le_mul_of_nonneg_left (one_dg n) (Rat.le_of_lt (dq_pos a))
  grind
/-- The argument of the series. -/
def nrX (m e : Int) (h p : Nat) : Int := (cutQ (dq m (e + -(h : Int))) ((p : Int) + 1) + 1) / 2
theorem dq_hlv (m e h : Int) : dq m (e + -h) = dq m e * dq 1 (-h) := by
  have := dq_mul m e 1 (-h)
  rwa [Int.mul_one] at this
theorem PwH.arg {m e : Int} {w h p dg : Nat} (H : PwH m e w h p dg) : (nrX m e h p).natAbs * 2 ^ 32 ≤ 2 ^ p ∧ (0 ≤ dq m e → 0 ≤ nrX m e h p) ∧ (dq m e ≤ 0 → nrX m e h p ≤ 0) ∧
    dq (nrX m e h p) (-(p : Int)) ≤ dq m (e + -(h : Int)) + dq 1 (-(p : Int)) ∧ dq m (e + -(h : Int)) ≤ dq (nrX m e h p) (-(p : Int)) + dq 1 (-(p : Int)) := by
  have n1 := near_lo (dq m (e + -(h : Int))) (p : Int)
  have n2 := near_hi (dq m (e + -(h : Int))) (p : Int)
  have hh := dq_half (p : Int)
  have hu := dq_pos (-(p : Int))
  have hu2 := dq_pos (-((p : Int) + 1))
  have ep := H.ep
  have hq := dq_hlv m e (h : Int)
  have h64 : dq 1 ((h : Int) - 64) * dq 1 (-(h : Int)) = dq 1 (-64) := by rw [← dq_add1]; congr 1; omega
  have hhp := dq_pos (-(h : Int))
  have q1 := Rat.mul_le_mul_of_nonneg_right H.hi (Rat.le_of_lt hhp)
  have q2 := Rat.mul_le_mul_of_nonneg_right H.lo (Rat.le_of_lt hhp)
  rw [h64, ← hq] at q1
  rw [Rat.neg_mul, h64, ← hq] at q2
  have hX : (cutQ (dq m (e + -(h : Int))) ((p : Int) + 1) + 1) / 2 = nrX m e h p := rfl
  rw [hX] at n1 n2
  have c32 : dq 1 (-(p : Int)) ≤ dq 1 (-32) := dq_anti (by omega)
  have v32 : dq 1 (-32) = 1 / 4294967296 := by decide +kernel
  have v64 : dq 1 (-64) = 1 / 18446744073709551616 := by decide +kernel
  refine ⟨?_, fun h0 => ?_, fun h0 => ?_, by grind, by grind⟩
  · have e32 : (2 : Nat) ^ 32 = 4294967296 := by decide
    have eP : (((2 : Nat) ^ p : Nat) : Int) = 2 ^ p := by simp
    have k1 : nrX m e h p * 4294967296 ≤ 2 ^ p := by
      refine (dq_le_iff _ _ (-(p : Int))).1 ?_
      rw [dq_onep, dq_scale (nrX m e h p * 4294967296), Rat.intCast_mul]
      rw [dq_scale (nrX m e h p)] at n1
      have e9 : ((4294967296 : Int) : Rat) = 4294967296 := by decide +kernel
      rw [e9]
      rw [v32] at c32
      rw [v64] at q1 q2
      clear v32 v64 h64 hX e9 eP e32 hq
      generalize ((nrX m e h p : Int) : Rat) = X at *
      generalize dq 1 (-(p : Int)) = u at *
      generalize dq 1 (-((p : Int) + 1)) = u2 at *
      generalize dq m (e + -(h : Int)) = q at *
      clear H ep
      grind
    have k2 : -(2 ^ p) ≤ nrX m e h p * 4294967296 := by
      refine (dq_le_iff _ _ (-(p : Int))).1 ?_
      rw [dq_neg, dq_onep, dq_scale (nrX m e h p * 4294967296), Rat.intCast_mul]
      rw [dq_scale (nrX m e h p)] at n2
      have e9 : ((4294967296 : Int) : Rat) = 4294967296 := by decide +kernel
      rw [e9]
      rw [v32] at c32
      rw [v64] at q1 q2
      clear v32 v64 h64 hX e9 eP e32 hq
      generalize ((nrX m e h p : Int) : Rat) = X at *
      generalize dq 1 (-(p : Int)) = u at *
      generalize dq 1 (-((p : Int) + 1)) = u2 at *
      generalize dq m (e + -(h : Int)) = q at *
      clear H ep
      grind
    rw [e32]
    rw [← eP] at k1 k2
    omega
  · unfold nrX
    have h1 : 0 ≤ dq m (e + -(h : Int)) := by rw [hq]; exact Rat.mul_nonneg h0 (Rat.le_of_lt hhp)
    have : 0 ≤ cutQ (dq m (e + -(h : Int))) ((p : Int) + 1) := by
      unfold cutQ
      refine Rat.le_floor_iff.2 ?_
      exact Rat.mul_nonneg h1 (Rat.le_of_lt (dq_pos _))
    omega
  · unfold nrX
    have h1 : dq m (e + -(h : Int)) ≤ 0 := by
      rw [hq]
      have := Rat.mul_nonneg (show 0 ≤ -(dq m e) by grind) (Rat.le_of_lt hhp)
      grind
    have : cutQ (dq m (e + -(h : Int))) ((p : Int) + 1) ≤ 0 := by
      have h2 := cut_lo (dq m (e + -(h : Int))) ((p : Int) + 1)
      have h3 := (dq_le_iff (cutQ (dq m (e + -(h : Int))) ((p : Int) + 1)) 0 (-((p : Int) + 1))).1 (by rw [dq_zero]; exact Rat.le_trans h2 h1)
      exact h3
    omega
/-- A round of the squares. -/
def PwL (m e : Int) (h p i : Nat) (s : Int) : Prop := i ≤ h ∧ ∃ n0, n0 ≤ 1000 ∧ PwB p ((n0 + 1) * 2 ^ i - 1) s ((((2 : Nat) ^ i : Nat) : Rat) * dq m (e + -(h : Int)))
theorem first_num {u x s k : Rat} (hu : 0 < u) (c32 : u ≤ 1 / 4294967296) (hk0 : 0 ≤ k) (hk : k ≤ 60) (hx : -(1 / 8) ≤ x) (b1 : 1 + x ≤ s + (3 * k + 3) * u) (b2 : s - (3 * k + 3) * u ≤ 8 / 7) :
    u ≤ 1 / 2 ∧ s - (3 * k + 3) * u ≤ 2 ∧ s + (3 * k + 3) * u ≤ 2 ∧ (3 * k + 7) * u ≤ 1 / 4 ∧ 0 ≤ s ∧ s - (3 * k + 7) * u ≤ s - (3 * k + 3) * u - 2 * u ∧ s + (3 * k + 3) * u + 4 * u ≤ s + (3 * k + 7) * u := by
  have h1 : (3 * k + 7) * u ≤ 187 * u := Rat.mul_le_mul_of_nonneg_right (by grind) (Rat.le_of_lt hu)
  have h2 : 0 ≤ (3 * k + 3) * u := Rat.mul_nonneg (by grind) (Rat.le_of_lt hu)
  refine ⟨by grind, by grind, by grind, by grind, by grind, by grind, by grind⟩
theorem PwL.first {m e : Int} {w h p dg k : Nat} {S : Int} (H : PwH m e w h p dg) (R : ExR (nrX m e h p) p k 0 S) : PwL m e h p 0 S := by
  obtain ⟨x1, x2, x3, x4, x5⟩ := H.arg
  have hk2 : 2 ≤ k := by
    refine Nat.not_lt.1 fun hlt => ?_
    have h1 := R.k1
    obtain rfl : k = 1 := by omega
    have h2 := R.tl.1
    rw [show tm (1 - 1) (dq (nrX m e h p) (-(p : Int))) = 1 from rfl, dq_zero] at h2
    have ep := H.ep
    have c32 : dq 1 (-(p : Int)) ≤ dq 1 (-32) := dq_anti (by omega)
    have v32 : dq 1 (-32) = 1 / 4294967296 := by decide +kernel
    rw [v32] at c32
    clear x1 x2 x3 x4 x5 R H ep hlt h1 v32
    generalize dq 1 (-(p : Int)) = u at *
    grind
  obtain ⟨l1, l2⟩ := R.last x1 hk2
  have fk := R.fk
  have p7 := H.p7
  have ep := H.ep
  have hkb : k ≤ 60 := by omega
  have c32 : dq 1 (-(p : Int)) ≤ dq 1 (-32) := dq_anti (by omega)
  have v32 : dq 1 (-32) = 1 / 4294967296 := by decide +kernel
  have hu := dq_pos (-(p : Int))
  have hkr : (k : Rat) ≤ 60 := by exact_mod_cast hkb
  have hk0 := nat_nn k
  obtain ⟨x, hx⟩ : ∃ x, dq (nrX m e h p) (-(p : Int)) = x := ⟨_, rfl⟩
  have hxb : -(1 / 8) ≤ x ∧ x ≤ 1 / 8 := by
    have eP : (((2 : Nat) ^ p : Nat) : Int) = 2 ^ p := by simp
    have h1 : -(2 ^ p) ≤ nrX m e h p * 8 := by rw [← eP]; omega
    have h2 : nrX m e h p * 8 ≤ 2 ^ p := by rw [← eP]; omega
    have g1 := (dq_le_iff _ _ (-(p : Int))).2 h1
    have g2 := (dq_le_iff _ _ (-(p : Int))).2 h2
    rw [dq_neg, dq_onep, dq_scale (nrX m e h p * 8), Rat.intCast_mul] at g1
    rw [dq_onep, dq_scale (nrX m e h p * 8), Rat.intCast_mul] at g2
    rw [dq_scale (nrX m e h p)] at hx
    have e8 : ((8 : Int) : Rat) = 8 := rfl
    rw [e8] at g1 g2
    clear x1 x2 x3 x4 x5 R H l1 l2 c32 v32 hu hkr hk0
    generalize ((nrX m e h p : Int) : Rat) = X at *
    generalize dq 1 (-(p : Int)) = u at *
    constructor <;> grind
  rw [hx] at l1 l2 x4 x5
  -- the sum lies between 1/2 and 2
  have b1 := (exp_line x).le l2
  have b2 : dq S (-(p : Int)) - (3 * (k : Rat) + 3) * dq 1 (-(p : Int)) ≤ 8 / 7 := by
    obtain ⟨z1, z2⟩ := hxb
    have p1 : 0 < 1 + -x := by clear x1 x2 x3 x4 x5 R H l1 l2 c32 v32 hu hkr hk0 hx b1; grind
    have g := (exp_line (-x)).neg p1
    rw [Rat.neg_neg] at g
    refine Rat.le_trans (l1.le g) ?_
    refine le_of_mul (c := 1 + -x) p1 ?_
    have p2 : 1 + -x ≠ 0 := by clear x1 x2 x3 x4 x5 R H l1 l2 c32 v32 hu hkr hk0 hx b1 g; grind
    rw [Rat.inv_mul_cancel _ p2]
    clear x1 x2 x3 x4 x5 R H l1 l2 c32 v32 hu hkr hk0 hx b1 g p2
    grind
  rw [v32] at c32
  obtain ⟨f1, f2, f3, f4, f5, f6, f7⟩ := first_num hu c32 hk0 hkr hxb.1 b1 b2
  obtain ⟨y1, y2⟩ := arg_near hu f1 x4 x5 l1 l2 f2 f3
  have e7 : ((3 * k + 7 : Nat) : Rat) = 3 * (k : Rat) + 7 := by push_cast; rfl
  have hy := dq_hlv m e (h : Int)
  have hhp := dq_pos (-(h : Int))
  refine ⟨by omega, 2 * (3 * k + 7), by omega, ?_⟩
  rw [show (2 * (3 * k + 7) + 1) * 2 ^ 0 - 1 = 2 * (3 * k + 7) by rw [Nat.pow_zero]; omega, show (((2 : Nat) ^ 0 : Nat) : Rat) * dq m (e + -(h : Int)) = dq m (e + -(h : Int)) from by rw [Nat.pow_zero]; exact Rat.one_mul _]
  refine PwB.first (y1.down ?_) (y2.up ?_) ?_ (fun h0 => ?_) (fun h0 => ?_)
  · rw [e7]; exact f6
  · rw [e7]; exact f7
  · rw [e7]; exact f4
  · refine (R.sp (x2 ?_)).2
    rw [hy] at h0
    clear x1 x2 x3 x4 x5 R H l1 l2 c32 v32 hu hkr hk0 hx b1 b2 f1 f2 f3 f4 f5 f6 f7 y1 y2 e7 hxb
    generalize dq m e = D at *
    generalize dq 1 (-(h : Int)) = H2 at *
    refine Rat.not_lt.1 fun hlt => ?_
    have := Rat.mul_pos (show 0 < -D by grind) hhp
    grind
  · have hd : dq m e ≤ 0 := by
      rw [hy] at h0
      clear x1 x2 x3 x4 x5 R H l1 l2 c32 v32 hu hkr hk0 hx b1 b2 f1 f2 f3 f4 f5 f6 f7 y1 y2 e7 hxb
      generalize dq m e = D at *
      generalize dq 1 (-(h : Int)) = H2 at *
      refine Rat.not_lt.1 fun hlt => ?_
      have := Rat.mul_pos hlt hhp
      grind
    refine ⟨?_, (R.sn (x3 hd)).1⟩
    refine (dq_le_iff 0 S (-(p : Int))).1 ?_
    rw [dq_zero]
    exact f5
theorem PwL.step {m e : Int} {h p i : Nat} {s : Int} (L : PwL m e h p i s) (hi : i < h) : PwL m e h p (i + 1) (s * s / 2 ^ p) := by
  obtain ⟨_, n0, h0, b⟩ := L
  refine ⟨by omega, n0, h0, ?_⟩
  have := b.step
  have hp := Nat.pow_pos (n := i) (show 0 < 2 by omega)
  have h1 : 1 ≤ (n0 + 1) * 2 ^ i := Nat.mul_pos (by omega) hp
  have e1 : 2 * ((n0 + 1) * 2 ^ i - 1) + 1 = (n0 + 1) * 2 ^ (i + 1) - 1 := by
    rw [Nat.pow_succ, ← Nat.mul_assoc]
    omega
  have e2 : 2 * ((((2 : Nat) ^ i : Nat) : Rat) * dq m (e + -(h : Int))) = (((2 : Nat) ^ (i + 1) : Nat) : Rat) * dq m (e + -(h : Int)) := by
    rw [Nat.pow_succ, Rat.natCast_mul, show ((2 : Nat) : Rat) = 2 from rfl]
    grind
  rwa [e1, e2] at this
/-- Powers of two as natural numbers and as dyadics. -/
theorem nat_dq (n : Nat) : (((2 : Nat) ^ n : Nat) : Rat) = dq 1 (n : Int) := by
  induction n with
  | zero => rfl
  | succ n ih =>
    rw [Nat.pow_succ, Rat.natCast_mul, ih, show ((n + 1 : Nat) : Int) = (n : Int) + 1 by omega, dq_add1]
    rfl
theorem pw_n {n0 i h p : Nat} (h0 : n0 ≤ 1000) (hi : i ≤ h) : (((n0 + 1) * 2 ^ i - 1 : Nat) : Rat) * dq 1 (-(p : Int)) ≤ dq 1 (10 + (h : Int) - (p : Int)) := by
  have h1 : (n0 + 1) * 2 ^ i - 1 ≤ 2 ^ (10 + h) := by
    have a1 : (n0 + 1) * 2 ^ i ≤ 1024 * 2 ^ h := Nat.mul_le_mul (by omega) (Nat.pow_le_pow_right (by omega) hi)
    have e10 : (2 : Nat) ^ 10 = 1024 := by decide
    rw [Nat.pow_add, e10]
    omega
  have h2 : (((n0 + 1) * 2 ^ i - 1 : Nat) : Rat) ≤ (((2 : Nat) ^ (10 + h) : Nat) : Rat) := by exact_mod_cast h1
  rw [nat_dq] at h2
  have h3 := Rat.mul_le_mul_of_nonneg_right h2 (Rat.le_of_lt (dq_pos (-(p : Int))))
  rw [← dq_add1, show ((10 + h : Nat) : Int) + -(p : Int) = 10 + (h : Int) - (p : Int) by omega] at h3
  exact h3
theorem PwL.mid {m e : Int} {w h p dg i : Nat} (H : PwH m e w h p dg) (hi : i ≤ h) : UpE ((((2 : Nat) ^ i : Nat) : Rat) * dq m (e + -(h : Int))) (dq 1 (dg : Int)) := by
  have hq := dq_hlv m e (h : Int)
  have hhp := dq_pos (-(h : Int))
  have e1 : (((2 : Nat) ^ h : Nat) : Rat) * dq m (e + -(h : Int)) = dq m e := by
    rw [hq, nat_dq]
    have := dq_unit (h : Int)
    grind
  by_cases h0 : 0 ≤ dq m (e + -(h : Int))
  · refine H.up.mono ?_
    rw [← e1]
    refine Rat.mul_le_mul_of_nonneg_right ?_ h0
    exact_mod_cast Nat.pow_le_pow_right (n := 2) (by omega) hi
  · refine (exp_0.2.mono ?_).up (one_dg dg)
    have := Rat.mul_nonneg (nat_nn (2 ^ i)) (show 0 ≤ -(dq m (e + -(h : Int))) by grind)
    grind
theorem PwL.size {m e : Int} {w h p dg i : Nat} {s : Int} (H : PwH m e w h p dg) (L : PwL m e h p i s) : AbP s (p + dg + 1) := by
  obtain ⟨hi, n0, h0, b⟩ := L
  have ep := H.ep
  have hn := pw_n (p := p) h0 hi
  have hc : dq 1 (10 + (h : Int) - (p : Int)) ≤ dq 1 (-1) := dq_anti (by omega)
  have v1 : dq 1 (-1) = 1 / 2 := by decide +kernel
  obtain ⟨t1, t2⟩ := b.top (PwL.mid H hi) (one_dg dg) (by grind)
  have e2 : 2 * dq 1 (dg : Int) = dq (2 ^ (p + dg + 1)) (-(p : Int)) := by
    have : dq (2 ^ (p + dg + 1)) (-(p : Int)) = dq 1 ((dg : Int) + 1) := by
      refine dq_eq (F := -(p : Int)) ?_ (by omega) (by omega)
      rw [show (-(p : Int) - -(p : Int)).toNat = 0 by omega, show ((dg : Int) + 1 - -(p : Int)).toNat = p + dg + 1 by omega]
      simp
    rw [this, dq_add1]
    have v2 : dq 1 1 = 2 := rfl
    rw [v2]
    grind
  rw [e2] at t2
  have t3 := (dq_le_iff _ _ _).1 t2
  unfold AbP
  have eP : (((2 : Nat) ^ (p + dg + 1) : Nat) : Int) = 2 ^ (p + dg + 1) := by simp
  rw [← eP] at t3
  omega
/-- The power: not further off than 2^-(w + 20). -/
theorem PwL.last {m e : Int} {w h p dg : Nat} {s : Int} (H : PwH m e w h p dg) (L : PwL m e h p h s) : 0 ≤ s ∧ LoE (dq s (-(p : Int)) - dq 1 (-((w : Int) + 20))) (dq m e) ∧ UpE (dq m e) (dq s (-(p : Int)) + dq 1 (-((w : Int) + 20))) := by
  obtain ⟨hi, n0, h0, b⟩ := L
  have ep := H.ep
  have hn := pw_n (p := p) h0 hi
  have hc : dq 1 (10 + (h : Int) - (p : Int)) ≤ dq 1 (-1) := dq_anti (by omega)
  have v1 : dq 1 (-1) = 1 / 2 := by decide +kernel
  have hm := PwL.mid H hi
  have hB := one_dg dg
  obtain ⟨t1, _⟩ := b.top hm hB (by grind)
  have e1 : (((2 : Nat) ^ h : Nat) : Rat) * dq m (e + -(h : Int)) = dq m e := by
    rw [dq_hlv m e (h : Int), nat_dq]
    have := dq_unit (h : Int)
    grind
  have k1 := Rat.mul_le_mul_of_nonneg_right hn (Rat.le_of_lt (dq_pos (dg : Int)))
  rw [← dq_add1, show 10 + (h : Int) - (p : Int) + (dg : Int) = -((w : Int) + 20) + -2 by omega, dq_add1] at k1
  have v4 : dq 1 (-2) = 1 / 4 := by decide +kernel
  have hM1 : dq 1 (-((w : Int) + 20)) ≤ dq 1 0 := dq_anti (by omega)
  have v0 : dq 1 0 = 1 := by decide +kernel
  rw [v0] at hM1
  rw [v4] at k1
  have k2 : 4 * ((((n0 + 1) * 2 ^ h - 1 : Nat) : Rat) * dq 1 (-(p : Int)) * dq 1 (dg : Int)) ≤ dq 1 (-((w : Int) + 20)) := by
    clear H hi h0 b ep hn hc v1 hm hB t1 e1 v4 hM1 v0
    generalize (((n0 + 1) * 2 ^ h - 1 : Nat) : Rat) * dq 1 (-(p : Int)) * dq 1 (dg : Int) = Z at *
    generalize dq 1 (-((w : Int) + 20)) = M at *
    grind
  obtain ⟨r1, r2⟩ := b.last (M := dq 1 (-((w : Int) + 20))) hm hB k2 hM1
  rw [e1] at r1 r2
  exact ⟨t1, r1, r2⟩
/-- Far below zero the power is next to nothing. -/
theorem pfar_up {m e : Int} {w : Nat} (h : dq m e ≤ -4096) (hw : w ≤ 4000) : UpE (dq m e) (dq 1 (-((w : Int) + 20))) := by
  have h1 : LoE 2 1 := by
    have := exp_line 1
    rwa [show (1 : Rat) + 1 = 2 by grind] at this
  have h2 := (h1.rp (by grind) 4096).neg (rp_pos (by grind) 4096)
  have e : ∀ n : Nat, rp 2 n = dq 1 (n : Int) := fun n => by
    induction n with
    | zero => rfl
    | succ n ih =>
      rw [rp_succ, ih, show ((n + 1 : Nat) : Int) = (n : Int) + 1 by omega, dq_add1]
      rfl
  rw [e] at h2
  have hi : (dq 1 ((4096 : Nat) : Int))⁻¹ = dq 1 (-4096) := by
    have u := dq_unit 4096
    have hp := dq_pos 4096
    have : dq 1 ((4096 : Nat) : Int) = dq 1 4096 := rfl
    rw [this]
    have h3 := Rat.inv_mul_cancel (dq 1 4096) (by grind)
    grind
  rw [hi] at h2
  refine (h2.mono ?_).up (dq_anti (by omega))
  have : ((4096 : Nat) : Rat) * 1 = 4096 := by decide +kernel
  rw [this]
  exact h

/-- A dyadic is less than the power of two of its top. -/
theorem top_bd (m e : Int) : -dq 1 (topZ m e) ≤ dq m e ∧ dq m e ≤ dq 1 (topZ m e) := by
  unfold topZ
  by_cases h0 : m = 0
  · subst h0
    rw [if_pos rfl, dq_zero]
    have := dq_pos 0
    constructor <;> grind
  · rw [if_neg h0]
    have hi := lt_two_pow_blen m.natAbs
    obtain ⟨n, hn⟩ : ∃ n, blen m.natAbs = n := ⟨_, rfl⟩
    rw [hn] at hi ⊢
    have eP : dq ((2 ^ n : Nat) : Int) e = dq 1 ((n : Int) + e) := by
      rw [dq_scale, Rat.intCast_natCast, nat_dq, ← dq_add1]
    rw [← eP, ← dq_neg]
    exact ⟨(dq_le_iff _ _ _).2 (by omega), (dq_le_iff _ _ _).2 (by omega)⟩

theorem r01 : (0 : Rat) ≤ 1 := by decide
theorem dq_nn {m : Int} (e : Int) (h : 0 ≤ m) : 0 ≤ dq m e := by
  have := (dq_le_iff 0 m e).2 h
  rwa [dq_zero] at this
theorem dq_shl (j : Nat) (m e : Int) : dq (m * 2 ^ j) e = dq m (e + (j : Int)) := dq_eq (F := e) (by rw [show e - e = 0 by omega, show (e + (j : Int) - e).toNat = j by omega]; simp) (by omega) (by omega)
theorem dq_lt_iff (C D F : Int) : dq C F < dq D F ↔ C < D := by
  rw [← Rat.not_le, dq_le_iff]
  omega
theorem dq1_mono {a b : Int} (h : a ≤ b) : dq 1 a ≤ dq 1 b := by
  obtain ⟨j, rfl⟩ : ∃ j : Nat, b = a + (j : Int) := ⟨(b - a).toNat, by omega⟩
  rw [← dq_shl, dq_le_iff]
  have := pow2_pos j
  omega
theorem dq_shl1 (j : Nat) (e : Int) : dq ((2 ^ j : Nat) : Int) e = dq 1 (e + (j : Int)) := by
  rw [← dq_shl, Int.one_mul, cast2]
/-- The absolute value of a dyadic, by its highest digit. -/
theorem top_iff {m e K : Int} (hK : 0 ≤ K) : topZ m e ≤ K ↔ -(dq 1 K) < dq m e ∧ dq m e < dq 1 K := by
  unfold topZ
  by_cases h0 : m = 0
  · subst h0
    rw [if_pos rfl, dq_zero]
    have hp := dq_pos K
    refine ⟨fun _ => ⟨?_, hp⟩, fun _ => hK⟩
    have := Rat.neg_lt_neg hp
    rwa [Rat.neg_zero] at this
  · rw [if_neg h0]
    have hp : 0 < m.natAbs := by omega
    have hb := blen_pos hp
    have lo := two_pow_blen_le hp
    have hi := lt_two_pow_blen m.natAbs
    have e1 : dq ((2 ^ (blen m.natAbs - 1) : Nat) : Int) e ≤ dq (m.natAbs : Int) e := (dq_le_iff _ _ _).2 (by omega)
    have e2 : dq (m.natAbs : Int) e < dq ((2 ^ blen m.natAbs : Nat) : Int) e := (dq_lt_iff _ _ _).2 (by omega)
    rw [dq_shl1] at e1 e2
    have e3 : 0 ≤ dq (m.natAbs : Int) e := dq_nn e (by omega)
    have key : (blen m.natAbs : Int) + e ≤ K ↔ dq (m.natAbs : Int) e < dq 1 K := by
      constructor
      · intro h
        exact rle_lt e2 (dq1_mono (by omega))
      · intro h
        by_cases hc : (blen m.natAbs : Int) + e ≤ K
        · exact hc
        · have := dq1_mono (a := K) (b := e + ((blen m.natAbs - 1 : Nat) : Int)) (by omega)
          exact absurd (Rat.le_trans this e1) (Rat.not_le.2 h)
    rw [key]
    have hn : -(dq 1 K) < 0 := by
      have := Rat.neg_lt_neg (dq_pos K)
      rwa [Rat.neg_zero] at this
    rcases Int.lt_or_le m 0 with hm | hm
    · rw [show m = -(m.natAbs : Int) from by omega, dq_neg, show (-(m.natAbs : Int)).natAbs = m.natAbs from by omega]
      constructor
      · intro h
        refine ⟨Rat.neg_lt_neg h, rlt_le ?_ (dq_pos K)⟩
        have := Rat.neg_le_neg e3
        rwa [Rat.neg_zero] at this
      · rintro ⟨h, _⟩
        have := Rat.neg_lt_neg h
        rwa [Rat.neg_neg, Rat.neg_neg] at this
    · rw [show ((m.natAbs : Int)) = m from by omega] at e3 ⊢
      exact ⟨fun h => ⟨rle_lt hn e3, h⟩, fun h => h.2⟩
/-- The ceiling of an exponent. -/
def clZ (m e : Int) : Int := -(cutQ (-(dq m e)) 0)
theorem clZ_up (m e : Int) : dq m e ≤ ((clZ m e : Int) : Rat) := by
  have h := cut_lo (-(dq m e)) 0
  rw [Int.neg_zero, dq_int] at h
  unfold clZ
  rw [Rat.intCast_neg]
  generalize dq m e = q at *
  grind
theorem clZ_le {m e b : Int} (h : dq m e ≤ (b : Rat)) : clZ m e ≤ b := by
  have h1 := cut_hi (-(dq m e)) 0
  rw [Int.neg_zero, dq_int, dq_int] at h1
  unfold clZ
  have h2 : ((-(b + 1) : Int) : Rat) < ((cutQ (-(dq m e)) 0 : Int) : Rat) := by
    rw [Rat.intCast_neg, Rat.intCast_add]
    generalize dq m e = q at *
    grind
  have := Rat.intCast_lt_intCast.1 h2
  omega
theorem clZ_ge {m e b : Int} (h : (b : Rat) ≤ dq m e) : b ≤ clZ m e := by
  have := Rat.intCast_le_intCast.1 (Rat.le_trans h (clZ_up m e))
  exact this

set_option maxHeartbeats 8000000 in
theorem xdig_any (m e : Int) (vx : Value) (w : World) (hx : IsD w vx m e) (lm : zl m ≤ 100) (he : -10000 ≤ e ∧ e ≤ 10000) (hc1 : -100000 ≤ clZ m e) (hc2 : clZ m e ≤ 100000) (hT : Tab w) :
    Calls Tryz.prog 108 #[vx] w (RetI w (dgN (clZ m e) : Int)) := by
  obtain ⟨A, c, rfl, _, hn⟩ := hx.form
  have L0 := (Lq.mk0 w).n hn
  have g1 := fun x W h (hW : Below w.heap.size w W) => gceil_any m e 0 x W h (by omega) (by omega) (by omega) (by omega) (hT.mono hW)
  have hcl : -(cutQ (-(dq m e)) 0) = clZ m e := rfl
  rw [hcl] at g1
  obtain ⟨C, hC⟩ : ∃ z, clZ m e = z := ⟨_, rfl⟩
  rw [hC] at g1 hc1 hc2 ⊢
  obtain ⟨e1, e2, e3⟩ := g_yes (p := 0) (by decide) C
  have hCb : AbP C 17 := by
    have e : (2 : Nat) ^ 17 = 131072 := by decide
    unfold AbP
    rw [e]
    omega
  rw [e1, e2, e3, Int.neg_zero, (nf hCb (by omega)).1] at g1
  have g2 := fun x W h => xwhole_any C x W h (by omega)
  obtain ⟨D, hD⟩ : ∃ D, dgN C = D := ⟨_, rfl⟩
  obtain ⟨q, hq⟩ : ∃ q, (3 * C + 1).tdiv 2 = q := ⟨_, rfl⟩
  have hq2 : q = (3 * C + 1) / 2 ∨ (3 * C + 1 < 0 ∧ q = (3 * C + 1) / 2 + 1) := by
    rw [Int.tdiv_eq_ediv] at hq
    split at hq
    · left; omega
    · rename_i h9
      right
      have h8 : ¬ 0 ≤ 3 * C + 1 := fun h => h9 (Or.inl h)
      rw [show Int.sign 2 = 1 from rfl] at hq
      omega
  have hqb : max q 0 = (D : Int) := by
    rw [← hD]
    unfold dgN
    split <;> omega
  have w1 : IntKind.i64.wrap (3 * C) = 3 * C := by rw [IntKind.wrap_i64]; omega
  have w2 : IntKind.i64.wrap (3 * C + 1) = 3 * C + 1 := by rw [IntKind.wrap_i64]; omega
  have w3 : IntKind.i64.wrap q = q := by rw [IntKind.wrap_i64]; omega
  rw [hD]
  generalize mkM C 0 = M at *
  generalize mkE C 0 = E at *
  have G1 := Lib.hid g1
  have G2 := Lib.hid g2
  clear g1 g2 hD hC hcl e1 e2 e3 hCb hc1 hc2 hT hx hn
  go_enter Tryz.func108, Tryz.ntmps108
  have L := (L0.varD (w.heap.size) (by simp) (ng m) A (zl m) c e)
  have c00 := L.b0.c30
  have c01 := L.b0.c31
  have c02 := L.b0.c32
  (try go_wp2_with fail)
  refine (G1.out _ _ (isD_n (m := m) (e := e) (s := .slice A (zl m) c) (L.getN (by simp))) L.below).mono ?_
  rintro e w1 ⟨v9, rfl, iz, be⟩
  clear c00 c01 c02
  obtain ⟨A1, c1, rfl, _, in9⟩ := iz.form
  replace L := (L.step be).n in9
  clear be iz in9
  have hl9 := L.b0.lt
  replace L := L.varD w1.heap.size rfl (ng M) A1 (zl M) c1 E
  have c00 := L.b0.c30
  have c01 := L.b0.c31
  have c02 := L.b0.c32
  go_wp2_with fail
  clear c00 c01 c02
  obtain ⟨g1, hg1⟩ : ∃ g9, w1.heap.size = g9 := ⟨_, rfl⟩
  rw [hg1] at L hl9 ⊢
  clear hg1
  have hl_g1 := hl9
  clear hl9
  refine (G2.out _ _ (isD_n (m := M) (e := E) (s := .slice A1 (zl M) c1) (L.getN (by simp)))).mono ?_
  rintro e w2 ⟨rfl, be⟩
  replace L := L.step be
  clear be
  (try go_wp2_with fail)
  go_ret
  exact ⟨rfl, L.below⟩
/-- What a power is: not further off than 2^-(k + 20). -/
def RetPw (w : World) (k : Nat) (m e : Int) (en : Ending) (w' : World) : Prop := ∃ (s : Int) (p : Nat), p ≤ 700 ∧ AbP s 1100 ∧ 0 ≤ s ∧ LoE (dq s (-(p : Int)) - dq 1 (-((k : Int) + 20))) (dq m e) ∧ UpE (dq m e) (dq s (-(p : Int)) + dq 1 (-((k : Int) + 20))) ∧ RetD8 w (mkM s (-(p : Int))) (mkE s (-(p : Int))) en w'
theorem RetPw.zero {w : World} {k : Nat} {m e : Int} {en : Ending} {w' : World} (h : dq m e < -4096) (hk : k ≤ 220) (r : RetD8 w 0 0 en w') : RetPw w k m e en w' := by
  have hu := dq_pos (-((k : Int) + 20))
  refine ⟨0, 0, by omega, AbP.zero _, by omega, (LoE.zero _).down ?_, (pfar_up (Rat.le_of_lt h) (w := k) (by omega)).up ?_, ?_⟩
  · rw [dq_zero]
    generalize dq 1 (-((k : Int) + 20)) = u at *
    grind
  · rw [dq_zero]
    generalize dq 1 (-((k : Int) + 20)) = u at *
    grind
  · rw [show (-((0 : Nat) : Int)) = 0 from rfl, nf00.1, nf00.2]
    exact r
theorem sq_AbP {T X : Int} {p : Nat} (hX : X.natAbs * 2 ^ 32 ≤ 2 ^ p) (hT : AbP T p) (hp : 1 ≤ p) : AbP (T * X / 2 ^ p) p := by
  have h := (pwT_sz (T := T) hX (Nat.le_refl 1)).1
  have e : pwT X p 1 T = T * X / 2 ^ p := by
    unfold pwT
    rw [show ((1 : Nat) : Int) = 1 from rfl, Int.ediv_one]
  rw [e] at h
  unfold AbP at *
  have h2 : 2 ≤ 2 ^ p := Nat.pow_le_pow_right (n := 2) (i := 1) (by omega) hp
  have h3 := Nat.div_mul_le_self T.natAbs 4294967296
  generalize T.natAbs / 4294967296 = q at *
  omega

set_option maxHeartbeats 16000000 in
theorem xpow_any (m e : Int) (k : Nat) (vx : Value) (w : World) (hx : IsD w vx m e) (lm : zl m ≤ 100) (he : -10000 ≤ e ∧ e ≤ 3000) (hv : Dv m e) (hhi : dq m e ≤ 200) (hk : k ≤ 220) (hT : Tab w) :
    Calls Tryz.prog 58 #[vx, .int .i64 (k : Int)] w (RetPw w k m e) := by
  obtain ⟨A, c, rfl, _, hn⟩ := hx.form
  have L0 := (Lq.mk0 w).n hn
  have HT := Lib.hid (fun W (hW : Below w.heap.size w W) => hT.mono hW)
  have hb4 : AbP (-4096) 12 := by unfold AbP; decide
  obtain ⟨z1, z2, z3, z4, z5, z6⟩ := nf hb4 (by omega)
  rw [dq_int] at z6
  have g1 := fun W (hW : Below w.heap.size w W) => dof_any (-4096) W (by omega) (by omega) (hT.mono hW)
  have g2 := fun x y W h j => dcmp_any m e (mkM (-4096) 0) (mkE (-4096) 0) x y W h j (by omega) (by omega) (by omega) (by omega)
  have hlt := dcm_lt m e (mkM (-4096) 0) (mkE (-4096) 0)
  rw [z6] at hlt
  rw [show cmpI (m * 2 ^ (e - min e (mkE (-4096) 0)).toNat) (mkM (-4096) 0 * 2 ^ (mkE (-4096) 0 - min e (mkE (-4096) 0)).toNat) = dcm m e (mkM (-4096) 0) (mkE (-4096) 0) from rfl] at g2
  generalize dcm m e (mkM (-4096) 0) (mkE (-4096) 0) = cm at *
  generalize mkM (-4096) 0 = Mb at *
  generalize mkE (-4096) 0 = Eb at *
  have G1 := Lib.hid g1
  have G2 := Lib.hid g2
  clear g1 g2 z1 z2 z3 z4 z5 z6 hb4 hx
  rcases Int.lt_or_le cm 0 with hcm | hcm
  · have d1 : decide (cm < 0) = true := decide_eq_true hcm
    have hfar := hlt.1 hcm
    clear hlt
    go_enter Tryz.func58, Tryz.ntmps58
    have L := ((L0.varD (w.heap.size) (by simp) (ng m) A (zl m) c e).varD (w.heap.size + 1) (by simp) false none 0 0 0)
    (try go_wp2_with fail)
    replace L := L.drew
    have c10 := L.tl.b0.c30
    have c11 := L.tl.b0.c31
    have c12 := L.tl.b0.c32
    go_region_held3 (fun w' => w'.cell? ⟨w.heap.size, 0, none⟩ = some (.bool (ng m)) ∧ w'.cell? ⟨w.heap.size, 1, none⟩ = some (.slice A (zl m) c) ∧ w'.cell? ⟨w.heap.size, 2, none⟩ = some (.int .i64 e)) (first | (with_reducible exact ⟨L.tl.b0.c30, L.tl.b0.c31, L.tl.b0.c32⟩) | exact ⟨L.tl.b0.c30, L.tl.b0.c31, L.tl.b0.c32⟩) (first | (go_at_call 57; (with_reducible refine (G1.out _ ?_ ).mono ?_); (· exact L.below); rintro e wh ⟨vh, rfl, id, be⟩; obtain ⟨A1, c1, rfl, _, in9⟩ := id.form; replace L := (L.step be).n in9; clear be id in9) | (go_at_call 56; (with_reducible refine (G2.out _ _ _ ?_ ?_ ).mono ?_); (· (refine isD_n (L.getN ?_); (repeat (first | (with_reducible exact List.mem_cons_self) | apply List.mem_cons_of_mem)))); (· (refine isD_n (L.getN ?_); (repeat (first | (with_reducible exact List.mem_cons_self) | apply List.mem_cons_of_mem)))); rintro e wh ⟨rfl, be⟩; replace L := L.step be; clear be))
    clear c10 c11 c12
    have c00 := L.b0.c30
    have f00 := L.b0.fr 0
    have c01 := L.b0.c31
    have f01 := L.b0.fr 1
    have c02 := L.b0.c32
    have f02 := L.b0.fr 2
    go_wp2_with fail
    clear c00 f00 c01 f01 c02 f02
    have LP := L.putD (by omega) (by first | (simp; done) | (simp; omega)) (false) none (0) 0 (0)
    have k0 := LP.b0.c30
    have k1 := LP.b0.c31
    have k2 := LP.b0.c32
    unfold put3 at k0 k1 k2
    exact bodyPost_ret (v := .agg #[.bool (false), .slice none (0) 0, .int .i64 (0)]) (by simp [results, Tryz.results58, go_sem, k0, k1, k2]) rfl (RetPw.zero hfar hk ⟨_, rfl, ⟨.slice none 0 0, by simp [ng], IsN.zero _⟩, LP.below⟩)
  · have d1 : decide (cm < 0) = false := decide_eq_false (by omega)
    have hnear : -4096 ≤ dq m e := by
      refine Rat.not_lt.1 fun hl => ?_
      have := hlt.2 hl
      omega
    clear hlt hcm
    have hen : ∀ args w, (callFunc 111 args).run Tryz.prog w = .ok (.enter 111 args) w := enters_of Tryz.func111 (by kernel_rfl) rfl
    obtain ⟨tp1, tp2⟩ := top_bd m e
    have htl : topZ m e ≤ 13 := by
      by_cases h0 : m = 0
      · subst h0; unfold topZ; rw [if_pos rfl]; omega
      · refine (top_iff (K := 13) (by omega)).2 ⟨?_, ?_⟩
        · have v : dq 1 13 = 8192 := by decide +kernel
          rw [v]
          clear tp1 tp2 hhi
          generalize dq m e = q at *
          grind
        · have v : dq 1 13 = 8192 := by decide +kernel
          rw [v]
          clear tp1 tp2 hnear
          generalize dq m e = q at *
          grind
    have htl2 : -20000 ≤ topZ m e := by unfold topZ; split <;> omega
    obtain ⟨h, hh⟩ : ∃ h : Nat, max (topZ m e + 64) 0 = (h : Int) := ⟨(max (topZ m e + 64) 0).toNat, by omega⟩
    have hcl : clZ m e ≤ 200 := clZ_le (by exact_mod_cast hhi)
    have hcl2 : -4096 ≤ clZ m e := clZ_ge (by exact_mod_cast hnear)
    have g3 := fun x W h (hW : Below w.heap.size w W) => xdig_any m e x W h lm (by omega) (by omega) (by omega) (HT.out W hW)
    obtain ⟨dg, hdg⟩ : ∃ dg, dgN (clZ m e) = dg := ⟨_, rfl⟩
    have hdgb : dg ≤ 301 := by rw [← hdg]; unfold dgN; split <;> omega
    have hupd := dg_up (clZ_up m e)
    rw [hdg] at g3 hupd
    obtain ⟨p, hp⟩ : ∃ p, k + 32 + h + dg = p := ⟨_, rfl⟩
    have hpb : p ≤ 700 := by omega
    have H : PwH m e k h p dg := by
      refine ⟨hp.symm, hupd, ?_, ?_, hpb⟩
      · exact Rat.le_trans (Rat.neg_le_neg (dq_anti (by omega))) tp1
      · exact Rat.le_trans tp2 (dq_anti (by omega))
    have g4 := fun x W h => dtop_any m e x W h (by omega) (by omega) (dv_zero hv)
    have g5 := fun x W hx (hW : Below w.heap.size w W) => dshift_any m e (-(h : Int)) x W hx (by omega) (by omega) (by omega) (HT.out W hW)
    have hr5 : mkR m (e + -(h : Int)) = 0 := mk_fits2 (by omega) (by omega) (by omega)
    rw [hr5] at g5
    have hz5 := zl_mk m (e + -(h : Int))
    have he5 := mkE_at hr5 (k := 100) (by omega)
    have hd5 := dq_mk hr5
    have g6 := fun x W hx (hW : Below w.heap.size w W) => gnear_any (mkM m (e + -(h : Int))) (mkE m (e + -(h : Int))) (p : Int) x W hx (by omega) (by omega) (by omega) (by omega) (HT.out W hW)
    have hpm : permB (p : Int) = true := by
      unfold permB
      rw [decide_eq_true (show (-2048 : Int) ≤ (p : Int) by omega), decide_eq_true (show (p : Int) ≤ 8192 by omega)]
      rfl
    rw [hd5, show (cutQ (dq m (e + -(h : Int))) ((p : Int) + 1) + 1) / 2 = nrX m e h p from rfl] at g6
    obtain ⟨gy1, gy2, gy3⟩ := g_yes hpm (nrX m e h p)
    obtain ⟨x1, x2, x3, x4, x5⟩ := H.arg
    have hXp : AbP (nrX m e h p) p := by
      unfold AbP
      have : (nrX m e h p).natAbs * 1 ≤ (nrX m e h p).natAbs * 2 ^ 32 := Nat.mul_le_mul_left _ (by decide)
      omega
    obtain ⟨nx1, nx2, nx3, nx4, nx5⟩ := np hXp (by omega) (show p ≤ 3000 by omega)
    rw [gy1, gy2, gy3, nx1] at g6
    have g7 := fun (A : Option Addr) (c : Nat) (W : World) (hW : Below w.heap.size w W) (hx : IsN W (.slice A (zl (mkM (nrX m e h p) (-(p : Int)))) c) (mkM (nrX m e h p) (-(p : Int))).natAbs) => xsum_any 111 hen (nrX m e h p) p (.agg #[.bool (ng (mkM (nrX m e h p) (-(p : Int)))), .slice A (zl (mkM (nrX m e h p) (-(p : Int)))) c, .int .i64 (mkE (nrX m e h p) (-(p : Int))), .int .i64 (p : Int)]) W x1 hpb (HT.out W hW) (fun k T vt W2 ht hTa hk1 hk2 hW2 => xnext_any (nrX m e h p) T p k A c vt W2 (hx.mono hW2) ht hXp hTa (sq_AbP x1 hTa (by omega)) hpb hk1 (by omega) ((HT.out W hW).mono hW2))
    clear gy1 gy2 gy3 nx1 nx2 nx3 nx4 nx5 hd5 he5 hz5 hr5 hcl hcl2 hupd hhi hnear tp1 tp2 x1 x2 x3 x4 x5 hXp hpm
    obtain ⟨Tz, hTz⟩ : ∃ z, topZ m e = z := ⟨_, rfl⟩
    rw [hTz] at g4 hh htl htl2
    have hhb : h ≤ 77 := by omega
    have w1 : IntKind.i64.wrap (Tz + 64) = Tz + 64 := by rw [IntKind.wrap_i64]; omega
    have w2 : IntKind.i64.wrap ((k : Int) + 32) = (k : Int) + 32 := by rw [IntKind.wrap_i64]; omega
    have w3 : IntKind.i64.wrap ((k : Int) + 32 + (h : Int)) = (k : Int) + 32 + (h : Int) := by rw [IntKind.wrap_i64]; omega
    have w4 : IntKind.i64.wrap ((k : Int) + 32 + (h : Int) + (dg : Int)) = (p : Int) := by rw [IntKind.wrap_i64]; omega
    have w5 : IntKind.i64.wrap (-(h : Int)) = -(h : Int) := by rw [IntKind.wrap_i64]; omega
    have HH := Lib.hid H
    have HP := Lib.hid (And.intro hpb (And.intro hhb hdgb))
    clear H hTz hdg hp hpb hdgb htl htl2 hhb
    obtain ⟨X, hX⟩ : ∃ z, nrX m e h p = z := ⟨_, rfl⟩
    rw [hX] at g6 g7
    have HX := Lib.hid hX
    clear hX
    generalize mkM X (-(p : Int)) = Mx at *
    generalize mkE X (-(p : Int)) = Ex at *
    generalize mkM m (e + -(h : Int)) = M1 at *
    generalize mkE m (e + -(h : Int)) = E1 at *
    have G3 := Lib.hid g3
    have G4 := Lib.hid g4
    have G5 := Lib.hid g5
    have G6 := Lib.hid g6
    have G7 := Lib.hid g7
    clear g3 g4 g5 g6 g7 hv lm he
    go_enter Tryz.func58, Tryz.ntmps58
    have L := ((L0.varD (w.heap.size) (by simp) (ng m) A (zl m) c e).varD (w.heap.size + 1) (by simp) false none 0 0 0)
    (try go_wp2_with fail)
    replace L := L.drew
    have c10 := L.tl.b0.c30
    have c11 := L.tl.b0.c31
    have c12 := L.tl.b0.c32
    go_region_held3 (fun w' => w'.cell? ⟨w.heap.size, 0, none⟩ = some (.bool (ng m)) ∧ w'.cell? ⟨w.heap.size, 1, none⟩ = some (.slice A (zl m) c) ∧ w'.cell? ⟨w.heap.size, 2, none⟩ = some (.int .i64 e)) (first | (with_reducible exact ⟨L.tl.b0.c30, L.tl.b0.c31, L.tl.b0.c32⟩) | exact ⟨L.tl.b0.c30, L.tl.b0.c31, L.tl.b0.c32⟩) (first | (go_at_call 57; (with_reducible refine (G1.out _ ?_ ).mono ?_); (· exact L.below); rintro e wh ⟨vh, rfl, id, be⟩; obtain ⟨A1, c1, rfl, _, in9⟩ := id.form; replace L := (L.step be).n in9; clear be id in9) | (go_at_call 56; (with_reducible refine (G2.out _ _ _ ?_ ?_ ).mono ?_); (· (refine isD_n (L.getN ?_); (repeat (first | (with_reducible exact List.mem_cons_self) | apply List.mem_cons_of_mem)))); (· (refine isD_n (L.getN ?_); (repeat (first | (with_reducible exact List.mem_cons_self) | apply List.mem_cons_of_mem)))); rintro e wh ⟨rfl, be⟩; replace L := L.step be; clear be))
    clear c10 c11 c12
    have c10 := L.tl.b0.c30
    have c11 := L.tl.b0.c31
    have c12 := L.tl.b0.c32
    (try go_wp2_with fail)
    refine (G4.out _ _ (isD_n (m := m) (e := e) (s := .slice A (zl m) c) (L.getN (by simp)))).mono ?_
    rintro e w1 ⟨rfl, be⟩
    clear c10 c11 c12
    replace L := L.step be
    clear be
    have c10 := L.tl.b0.c30
    have c11 := L.tl.b0.c31
    have c12 := L.tl.b0.c32
    (try go_wp2_with fail)
    refine (G3.out _ _ (isD_n (m := m) (e := e) (s := .slice A (zl m) c) (L.getN (by simp))) L.below).mono ?_
    rintro e w2 ⟨rfl, be⟩
    clear c10 c11 c12
    replace L := L.step be
    clear be
    have c10 := L.tl.b0.c30
    have c11 := L.tl.b0.c31
    have c12 := L.tl.b0.c32
    (try go_wp2_with fail)
    refine (G5.out _ _ (isD_n (m := m) (e := e) (s := .slice A (zl m) c) (L.getN (by simp))) L.below).mono ?_
    rintro e w3 ⟨v9, rfl, iz, be⟩
    clear c10 c11 c12
    obtain ⟨A2, c2, rfl, _, in9⟩ := iz.form
    replace L := (L.step be).n in9
    clear be iz in9
    have hl9 := L.b0.lt
    replace L := L.varD w3.heap.size rfl (ng M1) A2 (zl M1) c2 E1
    have c00 := L.b0.c30
    have c01 := L.b0.c31
    have c02 := L.b0.c32
    go_wp2_with fail
    clear c00 c01 c02
    obtain ⟨g1, hg1⟩ : ∃ g9, w3.heap.size = g9 := ⟨_, rfl⟩
    rw [hg1] at L hl9 ⊢
    clear hg1
    have hl_g1 := hl9
    clear hl9
    refine (G6.out _ _ (isD_n (m := M1) (e := E1) (s := .slice A2 (zl M1) c2) (L.getN (by simp))) L.below).mono ?_
    rintro e w4 ⟨v9, rfl, iz, be⟩
    obtain ⟨A3, c3, rfl, _, in9⟩ := iz.form
    replace L := (L.step be).n in9
    clear be iz in9
    have c00 := L.b0.c30
    have f00 := L.b0.fr 0
    have c01 := L.b0.c31
    have f01 := L.b0.fr 1
    have c02 := L.b0.c32
    have f02 := L.b0.fr 2
    have P := L.putD (by omega) (by simp; omega) (ng Mx) A3 (zl Mx) c3 Ex
    have p0 := P.b0.c30
    have p1 := P.b0.c31
    have p2 := P.b0.c32
    unfold put3 at p0 p1 p2 P
    go_wp2_with fail
    replace L := P
    clear P p0 p1 p2
    clear c00 f00 c01 f01 c02 f02
    refine (G7.out A3 c3 _ L.below (L.getN (by simp))).mono ?_
    rintro e w5 ⟨S, kk, hR, v9, rfl, iz, be⟩
    obtain ⟨A4, c4, rfl, _, in9⟩ := iz.form
    replace L := (L.step be).n in9
    clear be iz in9
    have hl9 := L.b0.lt
    rw [← HX.out] at hR
    have HL0 := PwL.first HH.out hR
    obtain ⟨Ms, hMs⟩ : ∃ z, mkM S (-(p : Int)) = z := ⟨_, rfl⟩
    obtain ⟨Es, hEs⟩ : ∃ z, mkE S (-(p : Int)) = z := ⟨_, rfl⟩
    rw [hMs] at L ⊢
    rw [hEs]
    have HL := Lib.hid (And.intro HL0 (And.intro hMs hEs))
    clear HL0 hMs hEs hR HX G1 G2 G3 G4 G5 G6 G7
    replace L := L.varD w5.heap.size rfl (ng Ms) A4 (zl Ms) c4 Es
    have c00 := L.b0.c30
    have c01 := L.b0.c31
    have c02 := L.b0.c32
    go_wp2_with fail
    clear c00 c01 c02
    obtain ⟨g2, hg2⟩ : ∃ g9, w5.heap.size = g9 := ⟨_, rfl⟩
    rw [hg2] at L hl9 ⊢
    clear hg2
    have hl_g2 := hl9
    clear hl9
    go_loopw [45] (fun i wr => ∃ (j : Nat) (s Ms Es : Int) (A4 : Option Addr) (c4 : Nat), i = .int .i64 (j : Int) ∧ Lq w wr [(.slice A4 (zl Ms) c4, Ms.natAbs)] [] [] [(g2, 26, #[.bool (ng Ms), .slice A4 (zl Ms) c4, .int .i64 Es]), (w.heap.size + 1, 26, #[.bool false, .slice none 0 0, .int .i64 0])] ∧ Hid (PwL m e h p j s ∧ mkM s (-(p : Int)) = Ms ∧ mkE s (-(p : Int)) = Es)) (fun i _ => 100 - (intOf i).toNat)
    case atStart => exact ⟨0, S, Ms, Es, A4, c4, by go_num, L.subx (by simp) (by simp), HL⟩
    case round =>
      clear L HL
      obtain ⟨j, s, Ms, Es, A4, c4, rfl, L, HL⟩ := hrel
      obtain ⟨hI, hM, hE⟩ := HL.out
      obtain ⟨hpb, hhb, hdgb⟩ := HP.out
      have hjh := hI.1
      have hsz := hI.size HH.out
      have hl0 := L.b0.lt
      rcases Nat.eq_or_lt_of_le hjh with rfl | hj3
      · have hlt : ¬ (j : Int) < (j : Int) := by omega
        obtain ⟨r1, r2, r3⟩ := hI.last HH.out
        clear HL hI
        replace L := L.swap
        have cel00 := L.b0.c30
        have f00 := L.b0.fr 0
        have cel01 := L.b0.c31
        have f01 := L.b0.fr 1
        have cel02 := L.b0.c32
        have f02 := L.b0.fr 2
        have cel10 := L.tl.b0.c30
        have cel11 := L.tl.b0.c31
        have cel12 := L.tl.b0.c32
        go_wp2_with fail
        clear cel00 f00 cel01 f01 cel02 f02 cel10 cel11 cel12
        subst hM hE
        have LP := L.putD (by omega) (by first | (simp; done) | (simp; omega)) (ng (mkM s (-(p : Int)))) A4 (zl (mkM s (-(p : Int)))) c4 (mkE s (-(p : Int)))
        have k0 := LP.b0.c30
        have k1 := LP.b0.c31
        have k2 := LP.b0.c32
        unfold put3 at k0 k1 k2
        exact bodyPost_ret (v := .agg #[.bool (ng (mkM s (-(p : Int)))), .slice A4 (zl (mkM s (-(p : Int)))) c4, .int .i64 (mkE s (-(p : Int)))]) (by simp [results, Tryz.results58, go_sem, k0, k1, k2]) rfl ⟨s, p, hpb, hsz.up (by omega), r1, r2, r3, _, rfl, isD_n (LP.getN (by simp)), LP.below⟩
      · have hlt : (j : Int) < (h : Int) := by omega
        have hI2 := hI.step hj3
        obtain ⟨M4, hM4⟩ : ∃ z, mkM (mkM s (-(p : Int)) * mkM s (-(p : Int))) (mkE s (-(p : Int)) + mkE s (-(p : Int))) = z := ⟨_, rfl⟩
        obtain ⟨E4, hE4⟩ : ∃ z, mkE (mkM s (-(p : Int)) * mkM s (-(p : Int))) (mkE s (-(p : Int)) + mkE s (-(p : Int))) = z := ⟨_, rfl⟩
        obtain ⟨a1, a2, a3, a4, a5⟩ := np hsz (by omega) (show p ≤ 3000 by omega)
        obtain ⟨m1, m2, m3, m4, m5, m6⟩ := np_mul hsz hsz (by omega) (by omega) (show p ≤ 1400 by omega) M4 E4 hM4 hE4
        have g8 := fun x y W h j (hW : Below w.heap.size w W) => dmul_any (mkM s (-(p : Int))) (mkE s (-(p : Int))) (mkM s (-(p : Int))) (mkE s (-(p : Int))) x y W h j (by omega) (by omega) (by omega) (by omega) (HT.out W hW)
        rw [hM4, hE4, m1, hM, hE] at g8
        have g9 := fun x W h (hW : Below w.heap.size w W) => gfloor_any M4 E4 (p : Int) x W h (by omega) (by omega) (by omega) (by omega) (HT.out W hW)
        rw [m4, m5, m6] at g9
        obtain ⟨s2, hs2⟩ : ∃ z, s * s / 2 ^ p = z := ⟨_, rfl⟩
        rw [hs2] at g9 hI2
        obtain ⟨M2, hM2⟩ : ∃ z, mkM s2 (-(p : Int)) = z := ⟨_, rfl⟩
        obtain ⟨E2, hE2⟩ : ∃ z, mkE s2 (-(p : Int)) = z := ⟨_, rfl⟩
        rw [hM2, hE2] at g9
        have G8 := Lib.hid g8
        have G9 := Lib.hid g9
        have HQ := Lib.hid (And.intro hI2 (And.intro hM2 hE2))
        have w9 : IntKind.i64.wrap ((j : Int) + 1) = (j : Int) + 1 := by rw [IntKind.wrap_i64]; omega
        clear g8 g9 a1 a2 a3 a4 a5 m1 m2 m3 m4 m5 m6 hM hE hM2 hE2 hs2 hI2 hM4 hE4 hI HL hsz
        have cel00 := L.b0.c30
        have f00 := L.b0.fr 0
        have cel01 := L.b0.c31
        have f01 := L.b0.fr 1
        have cel02 := L.b0.c32
        have f02 := L.b0.fr 2
        go_wp2_with fail
        refine (G8.out _ _ _ (isD_n (m := Ms) (e := Es) (s := .slice A4 (zl Ms) c4) (L.getN (by simp))) (isD_n (m := Ms) (e := Es) (s := .slice A4 (zl Ms) c4) (L.getN (by simp))) L.below).mono ?_
        rintro e w31 ⟨v9, rfl, iz, be⟩
        clear cel00 f00 cel01 f01 cel02 f02
        obtain ⟨A5, c5, rfl, _, in9⟩ := iz.form
        replace L := (L.step be).n in9
        clear be iz in9
        have cel00 := L.b0.c30
        have f00 := L.b0.fr 0
        have cel01 := L.b0.c31
        have f01 := L.b0.fr 1
        have cel02 := L.b0.c32
        have f02 := L.b0.fr 2
        have P := L.putD (by omega) (by simp; omega) (ng M4) A5 (zl M4) c5 E4
        have p0 := P.b0.c30
        have p1 := P.b0.c31
        have p2 := P.b0.c32
        unfold put3 at p0 p1 p2 P
        go_wp2_with fail
        replace L := P
        clear P p0 p1 p2
        clear cel00 f00 cel01 f01 cel02 f02
        refine (G9.out _ _ (isD_n (m := M4) (e := E4) (s := .slice A5 (zl M4) c5) (L.getN (by simp))) L.below).mono ?_
        rintro e w32 ⟨v9, rfl, iz, be⟩
        obtain ⟨A6, c6, rfl, _, in9⟩ := iz.form
        replace L := (L.step be).n in9
        clear be iz in9
        have cel00 := L.b0.c30
        have f00 := L.b0.fr 0
        have cel01 := L.b0.c31
        have f01 := L.b0.fr 1
        have cel02 := L.b0.c32
        have f02 := L.b0.fr 2
        have P := L.putD (by omega) (by simp; omega) (ng M2) A6 (zl M2) c6 E2
        unfold put3 at P
        go_wp2_with fail
        go_roundw
        case rel => exact ⟨j + 1, s2, M2, E2, A6, c6, by go_num, P.subx (by simp) (by simp), HQ⟩
        case measure => simp [intOf]; omega

/-- What Exp returns: an interval from a to b in units of 2^-k. -/
def RetEp (w : World) (k : Nat) (m e n f : Int) (en : Ending) (w' : World) : Prop := ∃ a b : Int, (0 ≤ a ∧ AbP a (k + 302) ∧ LoE (dq a (-(k : Int))) (dq m e) ∧ UpE (dq m e) (dq a (-(k : Int)) + 2 * dq 1 (-(k : Int)))) ∧
  (AbP b (k + 302) ∧ LoE (dq b (-(k : Int)) - 2 * dq 1 (-(k : Int))) (dq n f) ∧ UpE (dq n f) (dq b (-(k : Int)))) ∧ RetIE w (mkM a (-(k : Int))) (mkE a (-(k : Int))) (mkM b (-(k : Int))) (mkE b (-(k : Int))) 0 en w'
theorem twoM (k : Nat) : 2 * dq 1 (-((k : Int) + 20)) ≤ dq 1 (-(k : Int)) := by
  have h := dq_anti (a := -((k : Int) + 20)) (b := -(k : Int) + -1) (by omega)
  rw [dq_add1] at h
  have v : dq 1 (-1) = 1 / 2 := by decide +kernel
  rw [v] at h
  generalize dq 1 (-((k : Int) + 20)) = M at *
  generalize dq 1 (-(k : Int)) = u at *
  grind
theorem up200 {x : Rat} (h : x ≤ 200) : UpE x (dq 1 300) := by
  have h2 : x ≤ ((200 : Int) : Rat) := h
  have := dg_up h2
  exact this
theorem unit_up (k j : Nat) : dq 1 (j : Int) = dq (2 ^ (k + j)) (-(k : Int)) := by
  refine dq_eq (F := -(k : Int)) ?_ (by omega) (by omega)
  rw [show ((j : Int) - -(k : Int)).toNat = k + j by omega, show (-(k : Int) - -(k : Int)).toNat = 0 by omega]
  simp
theorem ep_lo {k : Nat} {q x Q : Rat} (h1 : LoE (q - dq 1 (-((k : Int) + 20))) x) (h2 : UpE x (q + dq 1 (-((k : Int) + 20)))) (hx : x ≤ 200) (hQ : (Q = 0 ∧ q - dq 1 (-((k : Int) + 20)) < 0) ∨ (Q = q - dq 1 (-((k : Int) + 20)) ∧ 0 ≤ Q)) :
    0 ≤ cutQ Q (k : Int) ∧ AbP (cutQ Q (k : Int)) (k + 302) ∧ LoE (dq (cutQ Q (k : Int)) (-(k : Int))) x ∧ UpE x (dq (cutQ Q (k : Int)) (-(k : Int)) + 2 * dq 1 (-(k : Int))) := by
  have hM := dq_pos (-((k : Int) + 20))
  have h2M := twoM k
  have c1 := cut_lo Q (k : Int)
  have c2 := cut_hi Q (k : Int)
  have hB := up200 hx
  have l0 : LoE Q x := by
    rcases hQ with ⟨e, _⟩ | ⟨e, _⟩
    · rw [e]; exact LoE.zero x
    · rw [e]; exact h1
  have hQ0 : 0 ≤ Q := by
    rcases hQ with ⟨e, _⟩ | ⟨_, e⟩
    · rw [e]; exact Rat.le_refl
    · exact e
  have u0 : UpE x (Q + 2 * dq 1 (-((k : Int) + 20))) := by
    refine h2.up ?_
    generalize dq 1 (-((k : Int) + 20)) = M at *
    clear h1 h2 hB c1 c2 l0
    rcases hQ with ⟨e, e2⟩ | ⟨e, e2⟩ <;> grind
  have hl := l0.down c1
  have a0 : 0 ≤ cutQ Q (k : Int) := by
    unfold cutQ
    refine Rat.le_floor_iff.2 ?_
    exact Rat.mul_nonneg hQ0 (Rat.le_of_lt (dq_pos _))
  refine ⟨a0, ?_, hl, u0.up ?_⟩
  · have h3 := hl.le hB
    rw [show (300 : Int) = ((300 : Nat) : Int) from rfl, unit_up k 300] at h3
    have h4 := (dq_le_iff _ _ _).1 h3
    have eP : (((2 : Nat) ^ (k + 300) : Nat) : Int) = 2 ^ (k + 300) := by simp
    rw [← eP] at h4
    have h5 := Nat.pow_le_pow_right (n := 2) (by omega) (show k + 300 ≤ k + 302 by omega)
    unfold AbP
    omega
  · generalize dq 1 (-((k : Int) + 20)) = M at *
    generalize dq 1 (-(k : Int)) = u at *
    generalize dq (cutQ Q (k : Int)) (-(k : Int)) = A at *
    clear h1 h2 hB c1 l0 hl u0 hQ
    grind
theorem ep_hi {k : Nat} {q x : Rat} (h1 : LoE (q - dq 1 (-((k : Int) + 20))) x) (h2 : UpE x (q + dq 1 (-((k : Int) + 20)))) (hx : x ≤ 200) :
    AbP (-(cutQ (-(q + dq 1 (-((k : Int) + 20)))) (k : Int))) (k + 302) ∧ LoE (dq (-(cutQ (-(q + dq 1 (-((k : Int) + 20)))) (k : Int))) (-(k : Int)) - 2 * dq 1 (-(k : Int))) x ∧ UpE x (dq (-(cutQ (-(q + dq 1 (-((k : Int) + 20)))) (k : Int))) (-(k : Int))) := by
  have hM := dq_pos (-((k : Int) + 20))
  have h2M := twoM k
  have c1 := cut_lo (-(q + dq 1 (-((k : Int) + 20)))) (k : Int)
  have c2 := cut_hi (-(q + dq 1 (-((k : Int) + 20)))) (k : Int)
  have hB := up200 hx
  obtain ⟨b, hb⟩ : ∃ b, -(cutQ (-(q + dq 1 (-((k : Int) + 20)))) (k : Int)) = b := ⟨_, rfl⟩
  rw [show cutQ (-(q + dq 1 (-((k : Int) + 20)))) (k : Int) = -b by omega, dq_neg] at c1 c2
  rw [hb]
  have hu : UpE x (dq b (-(k : Int))) := by
    refine h2.up ?_
    generalize dq 1 (-((k : Int) + 20)) = M at *
    generalize dq b (-(k : Int)) = B at *
    clear h1 h2 hB c2
    grind
  have hl : LoE (dq b (-(k : Int)) - 2 * dq 1 (-(k : Int))) x := by
    refine h1.down ?_
    generalize dq 1 (-((k : Int) + 20)) = M at *
    generalize dq b (-(k : Int)) = B at *
    generalize dq 1 (-(k : Int)) = u at *
    clear h1 h2 hB c1 hu
    grind
  refine ⟨?_, hl, hu⟩
  have h3 := hl.le hB
  rw [show (300 : Int) = ((300 : Nat) : Int) from rfl, unit_up k 300] at h3
  have e2 : dq b (-(k : Int)) - 2 * dq 1 (-(k : Int)) = dq (b - 2) (-(k : Int)) := by
    rw [dq_scale b, dq_scale (b - 2), Rat.intCast_sub, show ((2 : Int) : Rat) = 2 from rfl]
    generalize dq 1 (-(k : Int)) = u at *
    grind
  rw [e2] at h3
  have h4 := (dq_le_iff _ _ _).1 h3
  have eP : (((2 : Nat) ^ (k + 300) : Nat) : Int) = 2 ^ (k + 300) := by simp
  rw [← eP] at h4
  have h5 : 2 ^ (k + 302) = 2 ^ (k + 300) * 4 := by rw [show k + 302 = k + 300 + 2 by omega, Nat.pow_add]
  have h6 := Nat.pow_pos (n := k + 300) (show 0 < 2 by omega)
  have h7 := hu.pos
  have h8 : 0 < b := by
    refine Int.not_le.1 fun hle => ?_
    have := (dq_le_iff b 0 (-(k : Int))).2 hle
    rw [dq_zero] at this
    exact absurd h7 (Rat.not_lt.2 this)
  unfold AbP
  omega
/-- A number in units of 2^-p, and 2^-j more or less. -/
theorem ep_sum {s : Int} {p j : Nat} (t : Int) (h : AbP s 1100) (hp : p ≤ 700) (hj : j ≤ 300) (ht : t = 1 ∨ t = -1) (M E : Int)
    (hM : mkM (addS (mkM s (-(p : Int))) (mkE s (-(p : Int))) (t * mkM 1 (-(j : Int))) (mkE 1 (-(j : Int)))) (min (mkE s (-(p : Int))) (mkE 1 (-(j : Int)))) = M)
    (hE : mkE (addS (mkM s (-(p : Int))) (mkE s (-(p : Int))) (t * mkM 1 (-(j : Int))) (mkE 1 (-(j : Int)))) (min (mkE s (-(p : Int))) (mkE 1 (-(j : Int)))) = E) :
    mkR (addS (mkM s (-(p : Int))) (mkE s (-(p : Int))) (t * mkM 1 (-(j : Int))) (mkE 1 (-(j : Int)))) (min (mkE s (-(p : Int))) (mkE 1 (-(j : Int)))) = 0 ∧ dq M E = dq s (-(p : Int)) + (t : Rat) * dq 1 (-(j : Int)) ∧ zl M ≤ 400 ∧ (-15000 ≤ E ∧ E ≤ 15000) ∧ Dv M E := by
  obtain ⟨a1, a2, a3, a4, a5⟩ := np h (by omega) (show p ≤ 3000 by omega)
  obtain ⟨b1, b2, b3, b4, b5⟩ := np (T := 1) (j := 0) (by unfold AbP; decide) (by omega) (show j ≤ 3000 by omega)
  have hz1 : zl (t * mkM 1 (-(j : Int))) = zl (mkM 1 (-(j : Int))) := by
    rcases ht with rfl | rfl
    · rw [Int.one_mul]
    · rw [Int.neg_mul, Int.one_mul]; exact zl_neg _
  have hz := zl_addS (mkM s (-(p : Int))) (mkE s (-(p : Int))) (t * mkM 1 (-(j : Int))) (mkE 1 (-(j : Int))) 3000 (by omega) (by omega)
  rw [hz1] at hz
  have hr : mkR (addS (mkM s (-(p : Int))) (mkE s (-(p : Int))) (t * mkM 1 (-(j : Int))) (mkE 1 (-(j : Int)))) (min (mkE s (-(p : Int))) (mkE 1 (-(j : Int)))) = 0 := mk_fits9 (by omega) (by omega) (by omega)
  have hd := dq_mk hr
  have hv := mk_ok hr
  have hz2 := zl_mk (addS (mkM s (-(p : Int))) (mkE s (-(p : Int))) (t * mkM 1 (-(j : Int))) (mkE 1 (-(j : Int)))) (min (mkE s (-(p : Int))) (mkE 1 (-(j : Int))))
  have he := mkE_at hr (k := 400) (by omega)
  rw [hM] at hd hv hz2
  rw [hE] at hd hv he
  refine ⟨hr, ?_, by omega, by omega, hv⟩
  rw [hd, dq_add, a5]
  have e : dq (t * mkM 1 (-(j : Int))) (mkE 1 (-(j : Int))) = (t : Rat) * dq 1 (-(j : Int)) := by
    rw [dq_scale, Rat.intCast_mul, Rat.mul_assoc, ← dq_scale, b5]
  rw [e]


theorem abs_floor (y : Int) {n : Int} (hn : 0 < n) : (y / n).natAbs ≤ y.natAbs := by
  rcases Int.lt_or_le y 0 with h | h
  · have h1 : y / n < 0 := Int.ediv_neg_of_neg_of_pos h hn
    have h2 : y ≤ y / n := by
      rw [Int.le_ediv_iff_mul_le hn]
      have := Int.mul_le_mul_of_nonneg_left (show (1 : Int) ≤ n by omega) (show 0 ≤ -y by omega)
      rw [Int.mul_one, Int.neg_mul] at this
      omega
    omega
  · have h1 := Int.ediv_nonneg h (show 0 ≤ n by omega)
    have h2 := Int.ediv_le_self n h
    omega
/-- A slice of integers: what its elements stand for. -/
def RowZ (w : World) (v : Value) (l : List Int) : Prop := ∃ g c, v = .slice (some ⟨g, 0, none⟩) l.length c ∧ g < w.heap.size ∧ ∀ (j : Nat) (p : Int), l[j]? = some p → ∃ A c, w.cell? ⟨g, 2 * j, none⟩ = some (.bool (ng p)) ∧ w.cell? ⟨g, 2 * j + 1, none⟩ = some (.slice A (zl p) c) ∧ IsZ w (.agg #[.bool (ng p), .slice A (zl p) c]) p
theorem RowZ.mono {w w' : World} {v : Value} {l : List Int} (h : RowZ w v l) (hb : Below w.heap.size w w') : RowZ w' v l := by
  obtain ⟨g, c, r, hg, h⟩ := h
  refine ⟨g, c, r, Nat.lt_of_lt_of_le hg hb.size, fun j p hp => ?_⟩
  obtain ⟨A, c, h1, h2, h3⟩ := h j p hp
  exact ⟨A, c, (hb.cell (p := ⟨g, 2 * j, none⟩) hg).trans h1, (hb.cell (p := ⟨g, 2 * j + 1, none⟩) hg).trans h2, h3.mono hb⟩
def LoopZ (l : List Int) (t : Nat) (a1 a2 : Int) : Prop := a1 ∈ l ∧ a2 ∈ l ∧ ∀ (j : Nat) (p : Int), j < t → l[j]? = some p → a1 ≤ p ∧ p ≤ a2
theorem LoopZ.step {l : List Int} {t : Nat} {a1 a2 a b1 b2 : Int} (h : LoopZ l t a1 a2) (hp : l[t]? = some a) (m1 : b1 ∈ l) (m2 : b2 ∈ l) (x1 : b1 ≤ a1) (x2 : b1 ≤ a) (y1 : a2 ≤ b2) (y2 : a ≤ b2) : LoopZ l (t + 1) b1 b2 := by
  refine ⟨m1, m2, fun j p hj hjp => ?_⟩
  rcases Nat.lt_or_ge j t with h1 | h1
  · have := h.2.2 j p h1 hjp
    exact ⟨Int.le_trans x1 this.1, Int.le_trans this.2 y1⟩
  · obtain rfl : j = t := by omega
    rw [hp] at hjp
    obtain rfl := Option.some.inj hjp
    exact ⟨x2, y2⟩
theorem LoopZ.all {l : List Int} {a1 a2 : Int} {n : Nat} (hn : l.length = n) (h : LoopZ l n a1 a2) : (∀ q ∈ l, a1 ≤ q) ∧ ∀ q ∈ l, q ≤ a2 := by
  constructor <;> intro q hq <;> obtain ⟨j, hj, e⟩ := List.getElem_of_mem hq
  · exact (h.2.2 j q (by omega) (by rw [← e]; exact List.getElem?_eq_getElem hj)).1
  · exact (h.2.2 j q (by omega) (by rw [← e]; exact List.getElem?_eq_getElem hj)).2
theorem AbP.fl {x n : Int} {j : Nat} (h : AbP x j) (hn : 0 < n) : AbP (x / n) j := Nat.le_trans (abs_floor x hn) h
theorem AbP.cd {x n : Int} {j : Nat} (h : AbP x j) (hn : 0 < n) : AbP (cdv x n) j := (h.neg.fl hn).neg
theorem AbP.mn4 {a b c d : Int} {j : Nat} (h1 : AbP a j) (h2 : AbP b j) (h3 : AbP c j) (h4 : AbP d j) : AbP (mn4 a b c d) j := by
  unfold AbP Go.Proofs.YtnnfldkllhdhjaaGreatDoor.mn4 at *
  omega
theorem AbP.mx4 {a b c d : Int} {j : Nat} (h1 : AbP a j) (h2 : AbP b j) (h3 : AbP c j) (h4 : AbP d j) : AbP (mx4 a b c d) j := by
  unfold AbP Go.Proofs.YtnnfldkllhdhjaaGreatDoor.mx4 at *
  omega
theorem AbP.shr {x : Int} {j v : Nat} (h : AbP x (j + v)) : AbP (x / 2 ^ v) j := by
  unfold AbP at *
  have hp := pow2_pos v
  rw [Nat.pow_add] at h
  have e : (((2 : Nat) ^ v : Nat) : Int) = 2 ^ v := by simp
  obtain ⟨Q, hQ⟩ : ∃ Q : Nat, 2 ^ j = Q := ⟨_, rfl⟩
  obtain ⟨P, hP⟩ : ∃ P : Nat, 2 ^ v = P := ⟨_, rfl⟩
  rw [hQ, hP] at h
  rw [hQ]
  rw [hP] at e
  rw [← e] at hp ⊢
  have h2 : ((x.natAbs : Nat) : Int) ≤ (Q : Int) * (P : Int) := by exact_mod_cast h
  have h3 : x / (P : Int) ≤ (Q : Int) := Int.ediv_le_of_le_mul hp (by omega)
  have h4 : -(Q : Int) ≤ x / (P : Int) := (Int.le_ediv_iff_mul_le hp).2 (by rw [Int.neg_mul]; omega)
  omega
theorem AbP.cshr {x : Int} {j v : Nat} (h : AbP x (j + v)) : AbP (cdv x (2 ^ v)) j := by
  have := (AbP.shr (x := -x) h.neg).neg
  exact this
/-- A round of the series: the number of rounds t, the fuel f, the term's span (a, b), the sum's span (p, q). -/
structure ExS (v f t : Nat) (y : Rat) (a b p q : Int) : Prop where
  tf : t + f = v
  tm : SpC a b v (tm t y)
  sm : SpC p q v (esm (t + 1) y)
  aa : AbP a f
  bb : AbP b f
  pp : p.natAbs + 2 ^ f ≤ 2 ^ (v + 1)
  qq : q.natAbs + 2 ^ f ≤ 2 ^ (v + 1)
theorem ExS.first (v : Nat) (y : Rat) : ExS v v 0 y (2 ^ v) (2 ^ v) (2 ^ v) (2 ^ v) := by
  have h := SpC.of 1 v
  rw [Int.one_mul, show ((1 : Int) : Rat) = 1 from rfl] at h
  have e : ((2 : Int) ^ v).natAbs = 2 ^ v := by rw [Int.natAbs_pow]; rfl
  have h2 : ((2 : Int) ^ v).natAbs + 2 ^ v ≤ 2 ^ (v + 1) := by rw [e, Nat.pow_succ]; omega
  refine ⟨by omega, h, ?_, Nat.le_of_eq e, Nat.le_of_eq e, h2, h2⟩
  rwa [show esm (0 + 1) y = 1 from by show (0 : Rat) + 1 = 1; grind]
theorem ExS.step {v f t : Nat} {y : Rat} {a b p q c d A B : Int} (h : ExS v f t y a b p q) (hy : SpC c d v y) (hc : AbP c (v - 1)) (hd : AbP d (v - 1)) (ht : tnB a b = false)
    (eA : mn4 (a * c) (a * d) (b * c) (b * d) / 2 ^ v = A) (eB : cdv (mx4 (a * c) (a * d) (b * c) (b * d)) (2 ^ v) = B) :
    ∃ g, f = g + 1 ∧ AbP A g ∧ AbP B g ∧ ExS v g (t + 1) y (A / ((t + 1 : Nat) : Int)) (cdv B ((t + 1 : Nat) : Int)) (p + A / ((t + 1 : Nat) : Int)) (q + cdv B ((t + 1 : Nat) : Int)) := by
  have hf : 0 < f := by
    rcases Nat.eq_zero_or_pos f with rfl | h0
    · have h1 := h.aa
      have h2 := h.bb
      unfold AbP at h1 h2
      rw [Nat.pow_zero] at h1 h2
      unfold tnB at ht
      rw [decide_eq_true h1, decide_eq_true h2] at ht
      cases ht
    · exact h0
  obtain ⟨g, rfl⟩ : ∃ g, f = g + 1 := ⟨f - 1, by omega⟩
  have tf := h.tf
  have hm : ∀ x z : Int, AbP x (g + 1) → AbP z (v - 1) → AbP (x * z) (g + v) := fun x z h1 h2 => by
    have := h1.mul h2
    rwa [show g + 1 + (v - 1) = g + v by omega] at this
  have m1 := hm a c h.aa hc
  have m2 := hm a d h.aa hd
  have m3 := hm b c h.bb hc
  have m4 := hm b d h.bb hd
  have hA : AbP A g := by rw [← eA]; exact (AbP.mn4 m1 m2 m3 m4).shr
  have hB : AbP B g := by rw [← eB]; exact (AbP.mx4 m1 m2 m3 m4).cshr
  have n0 : (0 : Int) < ((t + 1 : Nat) : Int) := by omega
  have sp : SpC A B v (Go.Proofs.YtnnfldkllhdhjaaGreatDoor.tm t y * y) := by rw [← eA, ← eB]; exact h.tm.mul hy
  have so := sp.over n0
  rw [show Go.Proofs.YtnnfldkllhdhjaaGreatDoor.tm t y * y / (((t + 1 : Nat) : Int) : Rat) = Go.Proofs.YtnnfldkllhdhjaaGreatDoor.tm (t + 1) y from by
    show _ = Go.Proofs.YtnnfldkllhdhjaaGreatDoor.tm t y * y / ((t : Rat) + 1)
    rw [show (((t + 1 : Nat) : Int) : Rat) = (t : Rat) + 1 from by rw [Rat.intCast_natCast, Rat.natCast_add]; rfl]] at so
  have hA2 := hA.fl n0
  have hB2 := hB.cd n0
  refine ⟨g, rfl, hA, hB, by omega, so, h.sm.add so, hA2, hB2, ?_, ?_⟩
  · have h1 := h.pp
    unfold AbP at hA2
    rw [Nat.pow_succ] at h1
    omega
  · have h1 := h.qq
    unfold AbP at hB2
    rw [Nat.pow_succ] at h1
    omega
theorem ExS.last {v f t : Nat} {y : Rat} {a b p q : Int} (h : ExS v f t y a b p q) (ht : tnB a b = true) (hy : 8 * rab y ≤ 1) : RSp (p - 3) (q + 3) v y := by
  refine RSp.series h.sm hy ?_
  unfold tnB at ht
  rw [Bool.and_eq_true, decide_eq_true_iff, decide_eq_true_iff] at ht
  have h1 := (dq_le_iff (-1) a (-(v : Int))).2 (by omega)
  have h2 := (dq_le_iff b 1 (-(v : Int))).2 (by omega)
  rw [dq_neg] at h1
  obtain ⟨h3, h4⟩ := h.tm
  unfold rab
  split
  · grind
  · rw [tm_neg]
    rcases sgk_or t with e | e <;> rw [e] <;> grind
/-- The bits of the ends behind i squares. -/
def sqbits (v i : Nat) : Nat := v + (3 * 2 ^ i - 1)
theorem ExS.ends {v f t : Nat} {y : Rat} {a b p q : Int} (h : ExS v f t y a b p q) (hv : 1 ≤ v) : AbP (p - 3) (sqbits v 0) ∧ AbP (q + 3) (sqbits v 0) := by
  have e : sqbits v 0 = v + 1 + 1 := rfl
  have h1 := h.pp
  have h2 := h.qq
  have h3 : 2 ≤ 2 ^ v := Nat.pow_le_pow_right (n := 2) (i := 1) (by omega) hv
  have h4 := Nat.pow_pos (n := f) (show 0 < 2 by omega)
  unfold AbP
  rw [e, Nat.pow_succ, Nat.pow_succ]
  rw [Nat.pow_succ] at h1 h2
  omega
/-- A round of the squares. -/
structure ExD (v i : Nat) (y : Rat) (a b : Int) : Prop where
  rs : RSp a b v ((((2 : Nat) ^ i : Nat) : Rat) * y)
  aa : AbP a (sqbits v i)
  bb : AbP b (sqbits v i)
theorem ExD.first {v : Nat} {y : Rat} {a b : Int} (h : RSp a b v y) (ha : AbP a (sqbits v 0)) (hb : AbP b (sqbits v 0)) : ExD v 0 y a b :=
  ⟨by rwa [show (((2 : Nat) ^ 0 : Nat) : Rat) * y = y from by rw [Nat.pow_zero]; exact Rat.one_mul y], ha, hb⟩
theorem ExD.step {v i : Nat} {y : Rat} {a b A B : Int} (h : ExD v i y a b) (eA : mn4 (a * a) (a * b) (b * a) (b * b) / 2 ^ v = A) (eB : cdv (mx4 (a * a) (a * b) (b * a) (b * b)) (2 ^ v) = B) : ExD v (i + 1) y A B := by
  have e : sqbits v i + sqbits v i = sqbits v (i + 1) - 1 + v := by
    unfold sqbits
    have := Nat.pow_pos (n := i) (show 0 < 2 by omega)
    rw [Nat.pow_succ]
    omega
  have e2 : sqbits v (i + 1) - 1 ≤ sqbits v (i + 1) := by omega
  have hm : ∀ x z : Int, AbP x (sqbits v i) → AbP z (sqbits v i) → AbP (x * z) (sqbits v (i + 1) - 1 + v) := fun x z h1 h2 => by
    have := h1.mul h2
    rwa [e] at this
  have m1 := hm a a h.aa h.aa
  have m2 := hm a b h.aa h.bb
  have m3 := hm b a h.bb h.aa
  have m4 := hm b b h.bb h.bb
  have r := h.rs.sq
  rw [eA, eB, ← Rat.mul_assoc, show (2 : Rat) * (((2 : Nat) ^ i : Nat) : Rat) = (((2 : Nat) ^ (i + 1) : Nat) : Rat) from by
    rw [Nat.pow_succ, Rat.natCast_mul, Rat.mul_comm]; rfl] at r
  exact ⟨r, by rw [← eA]; exact (AbP.mn4 m1 m2 m3 m4).shr.up e2, by rw [← eB]; exact (AbP.mx4 m1 m2 m3 m4).cshr.up e2⟩
theorem RSp.out {a b : Int} {v k j : Nat} {x : Rat} (h : RSp a b v x) (hj : v = k + j) : LoE (dq (a / 2 ^ j) (-(k : Int))) x ∧ UpE x (dq (cdv b (2 ^ j)) (-(k : Int))) := by
  have hp := pow2_pos j
  have e : dq 1 (-(k : Int)) = dq 1 (-(v : Int)) * (((2 : Int) ^ j : Int) : Rat) := by
    have h1 := two_cast v
    have h2 := two_cast k
    rw [hj, Int.pow_add, Rat.intCast_mul] at h1
    rw [← hj] at h1
    have h3 := dq_pos (-(k : Int))
    grind
  have e2 : ∀ X : Int, dq X (-(k : Int)) = dq X (-(v : Int)) * (((2 : Int) ^ j : Int) : Rat) := fun X => by
    rw [dq_scale X, dq_scale X (-(v : Int)), e]; grind
  refine ⟨h.1.down ?_, h.2.up ?_⟩
  · rw [e2]; exact fdiv_le hp _
  · rw [e2]; exact le_cdiv hp _
/-- An interval whose ends, on the grid of j, enclose the exponential of x. -/
def RetEx (w : World) (x : Rat) (j : Nat) (en : Ending) (w' : World) : Prop := ∃ a b, RetI6 w (mkM a (-(j : Int))) (mkE a (-(j : Int))) (mkM b (-(j : Int))) (mkE b (-(j : Int))) en w' ∧ LoE (dq a (-(j : Int))) x ∧ UpE x (dq b (-(j : Int))) ∧ AbP a 60000 ∧ AbP b 60000
theorem RetEx.mk {w w' : World} {x : Rat} {j : Nat} {en : Ending} {M E N F : Int} (h : ∃ a b, mkM a (-(j : Int)) = M ∧ mkE a (-(j : Int)) = E ∧ mkM b (-(j : Int)) = N ∧ mkE b (-(j : Int)) = F ∧ LoE (dq a (-(j : Int))) x ∧ UpE x (dq b (-(j : Int))) ∧ AbP a 60000 ∧ AbP b 60000) (hr : RetI6 w M E N F en w') : RetEx w x j en w' := by
  obtain ⟨a, b, rfl, rfl, rfl, rfl, h⟩ := h
  exact ⟨a, b, hr, h⟩

/-- What is known of a result: its lower and upper end, in units of 2^-k. -/
def EpA (k : Nat) (a : Int) (x : Rat) : Prop := 0 ≤ a ∧ AbP a (k + 302) ∧ LoE (dq a (-(k : Int))) x ∧ UpE x (dq a (-(k : Int)) + 2 * dq 1 (-(k : Int)))
def EpB (k : Nat) (b : Int) (x : Rat) : Prop := AbP b (k + 302) ∧ LoE (dq b (-(k : Int)) - 2 * dq 1 (-(k : Int))) x ∧ UpE x (dq b (-(k : Int)))
/-- Of an enclosure of the reference. -/
def ExB (j : Nat) (a b : Int) (x : Rat) : Prop := LoE (dq a (-(j : Int))) x ∧ UpE x (dq b (-(j : Int))) ∧ AbP a 60000 ∧ AbP b 60000
theorem mk_val11 {m e : Int} {z : Nat} {M : Int} (h : mkR m e = 0) (hm : m ≠ 0) (hz : tz m.natAbs = z) (ho : oddM m = M) : mkM m e = M ∧ mkE m e = e + (z : Int) := by
  unfold mkM mkE
  rw [h, if_pos rfl, if_neg hm, if_pos rfl, ho]
  refine ⟨rfl, ?_⟩
  unfold oddE
  rw [hz]
theorem small11 {m : Int} (h : m.natAbs < 4294967296) : zl m ≤ 1900 := Nat.le_trans (len_le1 h) (by omega)
theorem mk_odd11 {M : Int} {z : Nat} {m e : Int} (hm : M * 2 ^ z = m) (ho : M.natAbs % 2 = 1) (hs : m.natAbs < 4294967296) (h1 : -4000 ≤ e) (h2 : e ≤ 4000) : mkM m e = M ∧ mkE m e = e + (z : Int) := by
  have h := mk_fits (m := m) (e := e) (small11 hs) h1 h2
  have hm0 : m ≠ 0 := by
    have hM : M ≠ 0 := fun h0 => by rw [h0] at ho; exact absurd ho (by decide)
    rw [← hm]
    exact Int.mul_ne_zero hM (pow2_ne z)
  have hz : tz m.natAbs = z := by rw [← hm, abs_shl]; exact tz_odd ho z
  have ho2 : oddM m = M := by rw [← hm]; exact odd_shl ho z
  exact mk_val11 h hm0 hz ho2
theorem mk_one (j : Nat) (hj : j ≤ 100) : mkM 1 (-(j : Int)) = 1 ∧ mkE 1 (-(j : Int)) = -(j : Int) ∧ mkR 1 (-(j : Int)) = 0 := by
  have h := mk_odd11 (M := 1) (z := 0) (m := 1) (e := -(j : Int)) (by decide) (by decide) (by decide) (by omega) (by omega)
  exact ⟨h.1, by rw [h.2]; omega, mk_fits (small11 (by decide)) (by omega) (by omega)⟩
set_option maxHeartbeats 4000000 in
theorem of14_any (a b : Int) (w : World) (h1 : -4000 ≤ a ∧ a ≤ 4000) (h2 : -4000 ≤ b ∧ b ≤ 4000) :
    Calls Tryz.prog 49 #[.int .i64 a, .int .i64 b] w (RetI6 w (mkM a 0) (mkE a 0) (mkM b 0) (mkE b 0)) := by
  have HA := Lib.hid (fun W => rof8_any a W (by omega) (by omega))
  have HB := Lib.hid (fun W => rof8_any b W (by omega) (by omega))
  generalize mkM a 0 = m at *
  generalize mkE a 0 = e at *
  generalize mkM b 0 = n at *
  generalize mkE b 0 = f at *
  clear h1 h2
  go_enter Tryz.func49, Tryz.ntmps49
  go_wp2_with fail
  have L := ((Lq.mk0 w).varI (w.heap.size) (by simp) false none 0 0 0 false none 0 0 0)
  have c00 := L.b0.c60
  have f00 := L.b0.fr 0
  have c01 := L.b0.c61
  have f01 := L.b0.fr 1
  have c02 := L.b0.c62
  have f02 := L.b0.fr 2
  have c03 := L.b0.c63
  have f03 := L.b0.fr 3
  have c04 := L.b0.c64
  have f04 := L.b0.fr 4
  have c05 := L.b0.c65
  have f05 := L.b0.fr 5
  (try go_wp2_with fail)
  refine (HA.out _).mono ?_
  rintro e w1 ⟨v1, rfl, id, be⟩
  clear c00 f00 c01 f01 c02 f02 c03 f03 c04 f04 c05 f05
  obtain ⟨A, c, rfl, _, in9⟩ := id.form
  replace L := (L.step be).n in9
  clear be id in9
  have c00 := L.b0.c60
  have f00 := L.b0.fr 0
  have c01 := L.b0.c61
  have f01 := L.b0.fr 1
  have c02 := L.b0.c62
  have f02 := L.b0.fr 2
  have c03 := L.b0.c63
  have f03 := L.b0.fr 3
  have c04 := L.b0.c64
  have f04 := L.b0.fr 4
  have c05 := L.b0.c65
  have f05 := L.b0.fr 5
  (try go_wp2_with fail)
  refine (HB.out _).mono ?_
  rintro e w2 ⟨v2, rfl, id, be⟩
  clear c00 f00 c01 f01 c02 f02 c03 f03 c04 f04 c05 f05
  obtain ⟨B, d, rfl, _, in9⟩ := id.form
  replace L := (L.step be).n in9
  clear be id in9
  have c00 := L.b0.c60
  have f00 := L.b0.fr 0
  have c01 := L.b0.c61
  have f01 := L.b0.fr 1
  have c02 := L.b0.c62
  have f02 := L.b0.fr 2
  have c03 := L.b0.c63
  have f03 := L.b0.fr 3
  have c04 := L.b0.c64
  have f04 := L.b0.fr 4
  have c05 := L.b0.c65
  have f05 := L.b0.fr 5
  (try go_wp2_with fail)
  have LP := L.putI (by omega) (by first | (simp; done) | (simp; omega)) (ng m) A (zl m) c e (ng n) B (zl n) d f
  have k0 := LP.b0.c60
  have k1 := LP.b0.c61
  have k2 := LP.b0.c62
  have k3 := LP.b0.c63
  have k4 := LP.b0.c64
  have k5 := LP.b0.c65
  unfold put6 at k0 k1 k2 k3 k4 k5
  exact bodyPost_ret (v := .agg #[.bool (ng m), .slice A (zl m) c, .int .i64 e, .bool (ng n), .slice B (zl n) d, .int .i64 f]) (by simp [results, Tryz.results49, go_sem, k0, k1, k2, k3, k4, k5]) rfl ⟨_, rfl, isI_n (LP.getN (by simp)) (LP.getN (by simp)), LP.below⟩
theorem mk_one14 (j : Nat) (hj : j ≤ 100) : mkM 1 (-(j : Int)) = 1 ∧ mkE 1 (-(j : Int)) = -(j : Int) ∧ mkR 1 (-(j : Int)) = 0 := mk_one j hj

/-- What Exp of a valid interval returns, as the laws use it. -/
theorem RetEp.ab {w : World} {k : Nat} {m e n f : Int} {en : Ending} {w' : World} (h : RetEp w k m e n f en w') : ∃ a b : Int, EpA k a (dq m e) ∧ EpB k b (dq n f) ∧ RetIE w (mkM a (-(k : Int))) (mkE a (-(k : Int))) (mkM b (-(k : Int))) (mkE b (-(k : Int))) 0 en w' := by
  obtain ⟨a, b, h1, h2, h3⟩ := h
  exact ⟨a, b, h1, h2, h3⟩
theorem RetEx.ab {w : World} {x : Rat} {j : Nat} {en : Ending} {w' : World} (h : RetEx w x j en w') : ∃ a b : Int, ExB j a b x ∧ RetI6 w (mkM a (-(j : Int))) (mkE a (-(j : Int))) (mkM b (-(j : Int))) (mkE b (-(j : Int))) en w' := by
  obtain ⟨a, b, h1, h2⟩ := h
  exact ⟨a, b, h2, h1⟩
theorem small14 {m e n f : Int} (lm : zl m ≤ 60) (ln : zl n ≤ 60) (he : -8000 ≤ e ∧ e ≤ 3000) (hf : -8000 ≤ f ∧ f ≤ 3000) (hle : dcm m e n f ≤ 0) (tm : topZ m e ≤ 2048) (tn : topZ n f ≤ 2048) : smallB m e n f = true := by
  have p8 : permB 8192 = true := by decide
  unfold smallB onB
  rw [p8, decide_eq_true hle, decide_eq_true tm, decide_eq_true tn, decide_eq_true (show -8192 ≤ e by omega), decide_eq_true (show -8192 ≤ f by omega)]
  simp


set_option maxHeartbeats 8000000 in
theorem i10out_yes (m e n f p : Int) (vx : Value) (w : World) (hx : IsI w vx m e n f) (lm : zl m ≤ 1000) (ln : zl n ≤ 1000) (he : -20000 ≤ e ∧ e ≤ 20000) (hf : -20000 ≤ f ∧ f ≤ 20000) (hp1 : -9223372036854775808 ≤ p) (hp2 : p ≤ 9223372036854775807) (hp : permB p = true) (r1 : mkR (cutQ (dq m e) p) (-p) = 0) (r2 : mkR (-(cutQ (-(dq n f)) p)) (-p) = 0) (hT : Tab w) :
    Calls Tryz.prog 63 #[vx, .int .i64 p] w (RetIE w (mkM (cutQ (dq m e) p) (-p)) (mkE (cutQ (dq m e) p) (-p)) (mkM (-(cutQ (-(dq n f)) p)) (-p)) (mkE (-(cutQ (-(dq n f)) p)) (-p)) 0) := by
  obtain ⟨A, c, B, d, rfl, hn1, hn2⟩ := hx.form
  have L0 := ((Lq.mk0 w).n hn2).n hn1
  have h1 := fun v W h (hW : Below w.heap.size w W) => gfloor_any m e p v W h (by omega) (by omega) hp1 hp2 (hT.mono hW)
  have h2 := fun v W h (hW : Below w.heap.size w W) => gceil_any n f p v W h (by omega) (by omega) hp1 hp2 (hT.mono hW)
  rw [(g_yes hp (cutQ (dq m e) p)).1, (g_yes hp (cutQ (dq m e) p)).2.1, (g_yes hp (cutQ (dq m e) p)).2.2] at h1
  rw [(g_yes hp (-(cutQ (-(dq n f)) p))).1, (g_yes hp (-(cutQ (-(dq n f)) p))).2.1, (g_yes hp (-(cutQ (-(dq n f)) p))).2.2] at h2
  rw [r1] at h1
  rw [r2] at h2
  generalize mkM (cutQ (dq m e) p) (-p) = M at *
  generalize mkE (cutQ (dq m e) p) (-p) = E at *
  generalize mkM (-(cutQ (-(dq n f)) p)) (-p) = N at *
  generalize mkE (-(cutQ (-(dq n f)) p)) (-p) = G at *
  have H1 := Lib.hid h1
  have H2 := Lib.hid h2
  clear h1 h2 hx hn1 hn2 lm ln he hf hp1 hp2 hp hT r1 r2
  go_enter Tryz.func63, Tryz.ntmps63
  go_wp2_with fail
  have L := ((L0.varI (w.heap.size) (by simp) (ng m) A (zl m) c e (ng n) B (zl n) d f).varI (w.heap.size + 1) (by simp) false none 0 0 0 false none 0 0 0)
  have c00 := L.b0.c60
  have f00 := L.b0.fr 0
  have c01 := L.b0.c61
  have f01 := L.b0.fr 1
  have c02 := L.b0.c62
  have f02 := L.b0.fr 2
  have c03 := L.b0.c63
  have f03 := L.b0.fr 3
  have c04 := L.b0.c64
  have f04 := L.b0.fr 4
  have c05 := L.b0.c65
  have f05 := L.b0.fr 5
  have c10 := L.tl.b0.c60
  have c11 := L.tl.b0.c61
  have c12 := L.tl.b0.c62
  have c13 := L.tl.b0.c63
  have c14 := L.tl.b0.c64
  have c15 := L.tl.b0.c65
  (try go_wp2_with fail)
  refine (H1.out _ _ (isD_n (m := m) (e := e) (s := .slice A (zl m) c) (L.getN (v := .slice A (zl m) c) (x := (m).natAbs) (by simp))) L.below).mono ?_
  rintro e w1 ⟨vv, rfl, id, be⟩
  clear c00 f00 c01 f01 c02 f02 c03 f03 c04 f04 c05 f05 c10 c11 c12 c13 c14 c15
  obtain ⟨A8, c8, rfl, _, in9⟩ := id.form
  replace L := (L.step be).n in9
  clear be id in9
  have hlg := L.b0.lt
  replace L := L.varD w1.heap.size rfl (ng M) A8 (zl M) c8 E
  have c00 := L.b0.c30
  have c01 := L.b0.c31
  have c02 := L.b0.c32
  have c20 := L.tl.tl.b0.c60
  have c21 := L.tl.tl.b0.c61
  have c22 := L.tl.tl.b0.c62
  have c23 := L.tl.tl.b0.c63
  have c24 := L.tl.tl.b0.c64
  have c25 := L.tl.tl.b0.c65
  go_wp2_with fail
  obtain ⟨g, hg⟩ : ∃ g, w1.heap.size = g := ⟨_, rfl⟩
  rw [hg] at L hlg c00 c01 c02 ⊢
  clear hg
  refine (H2.out _ _ (isD_n (m := n) (e := f) (s := .slice B (zl n) d) (L.getN (v := .slice B (zl n) d) (x := (n).natAbs) (by simp))) L.below).mono ?_
  rintro e w2 ⟨vv, rfl, id, be⟩
  clear c00 c01 c02 c20 c21 c22 c23 c24 c25
  obtain ⟨A9, c9, rfl, _, in9⟩ := id.form
  replace L := (L.step be).n in9
  clear be id in9
  have hlk9 := L.b0.lt
  replace L := L.varD w2.heap.size rfl (ng N) A9 (zl N) c9 G
  have n1 : w.heap.size + 1 ≠ g := by omega
  have n2 : w.heap.size + 1 ≠ w2.heap.size := by omega
  replace L := L.pull2
  have c00 := L.b0.c60
  have f00 := L.b0.fr 0
  have c01 := L.b0.c61
  have f01 := L.b0.fr 1
  have c02 := L.b0.c62
  have f02 := L.b0.fr 2
  have c03 := L.b0.c63
  have f03 := L.b0.fr 3
  have c04 := L.b0.c64
  have f04 := L.b0.fr 4
  have c05 := L.b0.c65
  have f05 := L.b0.fr 5
  have c10 := L.tl.b0.c30
  have c11 := L.tl.b0.c31
  have c12 := L.tl.b0.c32
  have c20 := L.tl.tl.b0.c30
  have c21 := L.tl.tl.b0.c31
  have c22 := L.tl.tl.b0.c32
  go_wp2_with fail
  have LP := L.putI (by omega) (by simp [n1, n2, Ne.symm n1, Ne.symm n2]) (ng M) A8 (zl M) c8 E (ng N) A9 (zl N) c9 G
  have k0 := LP.b0.c60
  have k1 := LP.b0.c61
  have k2 := LP.b0.c62
  have k3 := LP.b0.c63
  have k4 := LP.b0.c64
  have k5 := LP.b0.c65
  unfold put6 at k0 k1 k2 k3 k4 k5
  exact bodyPost_ret (v := .tuple #[.agg #[.bool (ng M), .slice A8 (zl M) c8, .int .i64 E, .bool (ng N), .slice A9 (zl N) c9, .int .i64 G], .int .i64 0]) (by simp [results, Tryz.results63, go_sem, k0, k1, k2, k3, k4, k5]) rfl ⟨_, rfl, isI_n (LP.getN (by simp)) (LP.getN (by simp)), LP.below⟩

set_option maxHeartbeats 8000000 in
theorem xexp_large (m e n f : Int) (k : Nat) (vx : Value) (w : World) (hx : IsI w vx m e n f) (lm : zl m ≤ 100) (ln : zl n ≤ 100) (he : -10000 ≤ e ∧ e ≤ 3000) (hf : -10000 ≤ f ∧ f ≤ 3000) (hv : Dv m e) (hv2 : Dv n f) (hsm : smallB m e n f = true) (hk : k ≤ 4096) (hl : ¬ dq n f ≤ 1000) (hT : Tab w) :
    Calls Tryz.prog 14 #[vx, .int .i64 (k : Int)] w (RetIE w 0 0 0 0 3) := by
  obtain ⟨A, c, B, d, rfl, hn1, hn2⟩ := hx.form
  have L0 := ((Lq.mk0 w).n hn2).n hn1
  have HP0 := fun W => xperm_any (k : Int) 0 W
  have hok : okX (k : Int) 0 = true := by
    unfold okX
    rw [decide_eq_true (show (0 : Int) ≤ (k : Int) by omega), decide_eq_true (show (k : Int) ≤ 4096 by omega)]
    rfl
  rw [hok] at HP0
  have HP := Lib.hid HP0
  have HT := Lib.hid (fun W (hW : Below w.heap.size w W) => hT.mono hW)
  have g1 := fun x W h => asmall_any m e n f x W h (by omega) (by omega) (by omega) (by omega) hv hv2
  rw [hsm] at g1
  have hb10 : AbP 1000 12 := by unfold AbP; decide
  obtain ⟨z1, z2, z3, z4, z5, z6⟩ := nf hb10 (by omega)
  rw [dq_int] at z6
  have g2 := fun W (hW : Below w.heap.size w W) => dof_any 1000 W (by omega) (by omega) (hT.mono hW)
  have g3 := fun x y W h j => dcmp_any n f (mkM 1000 0) (mkE 1000 0) x y W h j (by omega) (by omega) (by omega) (by omega)
  have hle := dcm_le n f (mkM 1000 0) (mkE 1000 0)
  rw [z6] at hle
  rw [show cmpI (n * 2 ^ (f - min f (mkE 1000 0)).toNat) (mkM 1000 0 * 2 ^ (mkE 1000 0 - min f (mkE 1000 0)).toNat) = dcm n f (mkM 1000 0) (mkE 1000 0) from rfl] at g3
  generalize dcm n f (mkM 1000 0) (mkE 1000 0) = cm at *
  generalize mkM 1000 0 = Mb at *
  generalize mkE 1000 0 = Eb at *
  have G1 := Lib.hid g1
  have G2 := Lib.hid g2
  have G3 := Lib.hid g3
  clear g1 g2 g3 z1 z2 z3 z4 z5 z6 hb10 hx HP0 hok
  have hcm : 0 < cm := by
    refine Int.not_le.1 fun h => hl (hle.1 h)
  have d1 : decide (0 < cm) = true := decide_eq_true hcm
  clear hle hl hv hv2 lm ln he hf hsm hk
  go_enter Tryz.func14, Tryz.ntmps14
  have L := ((L0.varI (w.heap.size) (by simp) (ng m) A (zl m) c e (ng n) B (zl n) d f).varI (w.heap.size + 1) (by simp) false none 0 0 0 false none 0 0 0)
  have c00 := L.b0.c60
  have f00 := L.b0.fr 0
  have c01 := L.b0.c61
  have f01 := L.b0.fr 1
  have c02 := L.b0.c62
  have f02 := L.b0.fr 2
  have c03 := L.b0.c63
  have f03 := L.b0.fr 3
  have c04 := L.b0.c64
  have f04 := L.b0.fr 4
  have c05 := L.b0.c65
  have f05 := L.b0.fr 5
  (try go_wp2_with fail)
  refine (HP.out _).mono ?_
  rintro e9 w' ⟨rfl, rfl⟩
  (try go_wp2_with fail)
  replace L := L.drew
  clear c00 f00 c01 f01 c02 f02 c03 f03 c04 f04 c05 f05
  have c10 := L.tl.b0.c60
  have c11 := L.tl.b0.c61
  have c12 := L.tl.b0.c62
  have c13 := L.tl.b0.c63
  have c14 := L.tl.b0.c64
  have c15 := L.tl.b0.c65
  go_region_held3 (fun w' => w'.cell? ⟨w.heap.size, 0, none⟩ = some (.bool (ng m)) ∧ w'.cell? ⟨w.heap.size, 1, none⟩ = some (.slice A (zl m) c) ∧ w'.cell? ⟨w.heap.size, 2, none⟩ = some (.int .i64 e) ∧ w'.cell? ⟨w.heap.size, 3, none⟩ = some (.bool (ng n)) ∧ w'.cell? ⟨w.heap.size, 4, none⟩ = some (.slice B (zl n) d) ∧ w'.cell? ⟨w.heap.size, 5, none⟩ = some (.int .i64 f)) (first | (with_reducible exact ⟨L.tl.b0.c60, L.tl.b0.c61, L.tl.b0.c62, L.tl.b0.c63, L.tl.b0.c64, L.tl.b0.c65⟩) | exact ⟨L.tl.b0.c60, L.tl.b0.c61, L.tl.b0.c62, L.tl.b0.c63, L.tl.b0.c64, L.tl.b0.c65⟩) (first | (go_at_call 55; (with_reducible refine (G1.out _ _ ?_ ).mono ?_); (· (refine isI_n (L.getN ?_) (L.getN ?_); all_goals (repeat (first | (with_reducible exact List.mem_cons_self) | apply List.mem_cons_of_mem)))); rintro e wh ⟨rfl, be⟩; replace L := L.step be; clear be) | (go_at_call 57; (with_reducible refine (G2.out _ ?_ ).mono ?_); (· exact L.below); rintro e wh ⟨vh, rfl, id, be⟩; obtain ⟨A1, c1, rfl, _, in9⟩ := id.form; replace L := (L.step be).n in9; clear be id in9) | (go_at_call 56; (with_reducible refine (G3.out _ _ _ ?_ ?_ ).mono ?_); (· (refine isD_n (L.getN ?_); (repeat (first | (with_reducible exact List.mem_cons_self) | apply List.mem_cons_of_mem)))); (· (refine isD_n (L.getN ?_); (repeat (first | (with_reducible exact List.mem_cons_self) | apply List.mem_cons_of_mem)))); rintro e wh ⟨rfl, be⟩; replace L := L.step be; clear be))
  clear c10 c11 c12 c13 c14 c15
  have c00 := L.b0.c60
  have f00 := L.b0.fr 0
  have c01 := L.b0.c61
  have f01 := L.b0.fr 1
  have c02 := L.b0.c62
  have f02 := L.b0.fr 2
  have c03 := L.b0.c63
  have f03 := L.b0.fr 3
  have c04 := L.b0.c64
  have f04 := L.b0.fr 4
  have c05 := L.b0.c65
  have f05 := L.b0.fr 5
  go_wp2_with fail
  clear c00 f00 c01 f01 c02 f02 c03 f03 c04 f04 c05 f05
  have LP := L.putI (by omega) (by first | (simp; done) | (simp; omega)) false none 0 0 0 false none 0 0 0
  have k0 := LP.b0.c60
  have k1 := LP.b0.c61
  have k2 := LP.b0.c62
  have k3 := LP.b0.c63
  have k4 := LP.b0.c64
  have k5 := LP.b0.c65
  unfold put6 at k0 k1 k2 k3 k4 k5
  exact bodyPost_ret (v := .tuple #[.agg #[.bool false, .slice none 0 0, .int .i64 0, .bool false, .slice none 0 0, .int .i64 0], .int .i64 3]) (by simp [results, Tryz.results14, go_sem, k0, k1, k2, k3, k4, k5]) rfl ⟨_, rfl, isI_zero _, LP.below⟩
set_option maxHeartbeats 16000000 in
theorem xexp_yes (m e n f : Int) (k : Nat) (vx : Value) (w : World) (hx : IsI w vx m e n f) (lm : zl m ≤ 100) (ln : zl n ≤ 100) (he : -10000 ≤ e ∧ e ≤ 3000) (hf : -10000 ≤ f ∧ f ≤ 3000) (hv : Dv m e) (hv2 : Dv n f) (hsm : smallB m e n f = true) (hk : k ≤ 220) (hl : dq n f ≤ 200) (hT : Tab w) :
    Calls Tryz.prog 14 #[vx, .int .i64 (k : Int)] w (RetEp w k m e n f) := by
  obtain ⟨A, c, B, d, rfl, hn1, hn2⟩ := hx.form
  have L0 := ((Lq.mk0 w).n hn2).n hn1
  have HP0 := fun W => xperm_any (k : Int) 0 W
  have hok : okX (k : Int) 0 = true := by
    unfold okX
    rw [decide_eq_true (show (0 : Int) ≤ (k : Int) by omega), decide_eq_true (show (k : Int) ≤ 4096 by omega)]
    rfl
  rw [hok] at HP0
  have HP := Lib.hid HP0
  have HT := Lib.hid (fun W (hW : Below w.heap.size w W) => hT.mono hW)
  have g1 := fun x W h => asmall_any m e n f x W h (by omega) (by omega) (by omega) (by omega) hv hv2
  rw [hsm] at g1
  have hb10 : AbP 1000 12 := by unfold AbP; decide
  obtain ⟨z1, z2, z3, z4, z5, z6⟩ := nf hb10 (by omega)
  rw [dq_int] at z6
  have g2 := fun W (hW : Below w.heap.size w W) => dof_any 1000 W (by omega) (by omega) (hT.mono hW)
  have g3 := fun x y W h j => dcmp_any n f (mkM 1000 0) (mkE 1000 0) x y W h j (by omega) (by omega) (by omega) (by omega)
  have hle := dcm_le n f (mkM 1000 0) (mkE 1000 0)
  rw [z6] at hle
  rw [show cmpI (n * 2 ^ (f - min f (mkE 1000 0)).toNat) (mkM 1000 0 * 2 ^ (mkE 1000 0 - min f (mkE 1000 0)).toNat) = dcm n f (mkM 1000 0) (mkE 1000 0) from rfl] at g3
  generalize dcm n f (mkM 1000 0) (mkE 1000 0) = cm at *
  generalize mkM 1000 0 = Mb at *
  generalize mkE 1000 0 = Eb at *
  have G1 := Lib.hid g1
  have G2 := Lib.hid g2
  have G3 := Lib.hid g3
  clear g1 g2 g3 z1 z2 z3 z4 z5 z6 hb10 hx HP0 hok
  have hcm : ¬ 0 < cm := by
    refine Int.not_lt.2 (hle.2 (Rat.le_trans hl ?_))
    exact_mod_cast (by omega : (200 : Int) ≤ 1000)
  have d1 : decide (0 < cm) = false := decide_eq_false hcm
  have hmn : dcm m e n f ≤ 0 := by
    unfold smallB at hsm
    rw [Bool.and_eq_true] at hsm
    exact of_decide_eq_true hsm.1
  have hlm : dq m e ≤ 200 := Rat.le_trans ((dcm_le m e n f).1 hmn) hl
  have g4 := fun x W h (hW : Below w.heap.size w W) => xpow_any m e k x W h lm he hv hlm hk (hT.mono hW)
  have g5 := fun x W h (hW : Below w.heap.size w W) => xpow_any n f k x W h ln hf hv2 hl hk (hT.mono hW)
  have g6 := fun x y W h j => dcmp_any m e n f x y W h j (by omega) (by omega) (by omega) (by omega)
  rw [show cmpI (m * 2 ^ (e - min e f).toNat) (n * 2 ^ (f - min e f).toNat) = dcm m e n f from rfl] at g6
  obtain ⟨j, hj⟩ : ∃ j : Nat, k + 20 = j := ⟨_, rfl⟩
  have hji : (j : Int) = (k : Int) + 20 := by omega
  have hpj : permB (j : Int) = true := by
    unfold permB
    rw [decide_eq_true (show (-2048 : Int) ≤ (j : Int) by omega), decide_eq_true (show (j : Int) ≤ 8192 by omega)]
    rfl
  have hpk : permB (k : Int) = true := by
    unfold permB
    rw [decide_eq_true (show (-2048 : Int) ≤ (k : Int) by omega), decide_eq_true (show (k : Int) ≤ 8192 by omega)]
    rfl
  have g7 := fun W (hW : Below w.heap.size w W) => gunit_any (j : Int) W (by omega) (by omega) (hT.mono hW)
  obtain ⟨y1, y2, y3⟩ := g_yes hpj 1
  obtain ⟨u1, u2, u3, u4, u5⟩ := np (T := 1) (j := 0) (p := j) (by unfold AbP; decide) (by omega) (by omega)
  rw [y1, y2, y3, u1] at g7
  have w1 : IntKind.i64.wrap ((k : Int) + 20) = (j : Int) := by rw [IntKind.wrap_i64]; omega
  have hjb : j ≤ 240 := by omega
  have HU := Lib.hid (And.intro u2 u3)
  have HPK := Lib.hid hpk
  have HJ := Lib.hid (And.intro hji (And.intro hjb hk))
  have HLB := Lib.hid (And.intro hlm hl)
  obtain ⟨Mu, hMu⟩ : ∃ z, mkM 1 (-(j : Int)) = z := ⟨_, rfl⟩
  obtain ⟨Eu, hEu⟩ : ∃ z, mkE 1 (-(j : Int)) = z := ⟨_, rfl⟩
  rw [hMu, hEu] at g7
  have HMU := Lib.hid (And.intro hMu hEu)
  have hcase : (dcm m e n f < 0) ∨ (m = n ∧ e = f ∧ dcm m e n f = 0) := by
    rcases Int.lt_or_le (dcm m e n f) 0 with q | q
    · exact Or.inl q
    · have q0 : dcm m e n f = 0 := by omega
      obtain ⟨a, b⟩ := (dcm_eq hv hv2).1 q0
      exact Or.inr ⟨a, b, q0⟩
  generalize dcm m e n f = cn at *
  have G4 := Lib.hid g4
  have G5 := Lib.hid g5
  have G6 := Lib.hid g6
  have G7 := Lib.hid g7
  clear g4 g5 g6 g7 hle hl hv hv2 lm ln he hf hsm y1 y2 y3 u1 u2 u3 u4 u5 hpj hpk hMu hEu hmn hlm hj hji hjb hk hT hcm
  rcases hcase with hlt | ⟨rfl, rfl, hlt⟩
  · have d2 : decide (cn < 0) = true := decide_eq_true hlt
    go_enter Tryz.func14, Tryz.ntmps14
    have L := ((L0.varI (w.heap.size) (by simp) (ng m) A (zl m) c e (ng n) B (zl n) d f).varI (w.heap.size + 1) (by simp) false none 0 0 0 false none 0 0 0)
    have c00 := L.b0.c60
    have f00 := L.b0.fr 0
    have c01 := L.b0.c61
    have f01 := L.b0.fr 1
    have c02 := L.b0.c62
    have f02 := L.b0.fr 2
    have c03 := L.b0.c63
    have f03 := L.b0.fr 3
    have c04 := L.b0.c64
    have f04 := L.b0.fr 4
    have c05 := L.b0.c65
    have f05 := L.b0.fr 5
    (try go_wp2_with fail)
    refine (HP.out _).mono ?_
    rintro e9 w' ⟨rfl, rfl⟩
    (try go_wp2_with fail)
    replace L := L.drew
    clear c00 f00 c01 f01 c02 f02 c03 f03 c04 f04 c05 f05
    have c10 := L.tl.b0.c60
    have c11 := L.tl.b0.c61
    have c12 := L.tl.b0.c62
    have c13 := L.tl.b0.c63
    have c14 := L.tl.b0.c64
    have c15 := L.tl.b0.c65
    go_region_held3 (fun w' => w'.cell? ⟨w.heap.size, 0, none⟩ = some (.bool (ng m)) ∧ w'.cell? ⟨w.heap.size, 1, none⟩ = some (.slice A (zl m) c) ∧ w'.cell? ⟨w.heap.size, 2, none⟩ = some (.int .i64 e) ∧ w'.cell? ⟨w.heap.size, 3, none⟩ = some (.bool (ng n)) ∧ w'.cell? ⟨w.heap.size, 4, none⟩ = some (.slice B (zl n) d) ∧ w'.cell? ⟨w.heap.size, 5, none⟩ = some (.int .i64 f)) (first | (with_reducible exact ⟨L.tl.b0.c60, L.tl.b0.c61, L.tl.b0.c62, L.tl.b0.c63, L.tl.b0.c64, L.tl.b0.c65⟩) | exact ⟨L.tl.b0.c60, L.tl.b0.c61, L.tl.b0.c62, L.tl.b0.c63, L.tl.b0.c64, L.tl.b0.c65⟩) (first | (go_at_call 55; (with_reducible refine (G1.out _ _ ?_ ).mono ?_); (· (refine isI_n (L.getN ?_) (L.getN ?_); all_goals (repeat (first | (with_reducible exact List.mem_cons_self) | apply List.mem_cons_of_mem)))); rintro e wh ⟨rfl, be⟩; replace L := L.step be; clear be) | (go_at_call 57; (with_reducible refine (G2.out _ ?_ ).mono ?_); (· exact L.below); rintro e wh ⟨vh, rfl, id, be⟩; obtain ⟨A1, c1, rfl, _, in9⟩ := id.form; replace L := (L.step be).n in9; clear be id in9) | (go_at_call 56; (with_reducible refine (G3.out _ _ _ ?_ ?_ ).mono ?_); (· (refine isD_n (L.getN ?_); (repeat (first | (with_reducible exact List.mem_cons_self) | apply List.mem_cons_of_mem)))); (· (refine isD_n (L.getN ?_); (repeat (first | (with_reducible exact List.mem_cons_self) | apply List.mem_cons_of_mem)))); rintro e wh ⟨rfl, be⟩; replace L := L.step be; clear be))
    clear c10 c11 c12 c13 c14 c15
    have c10 := L.tl.b0.c60
    have c11 := L.tl.b0.c61
    have c12 := L.tl.b0.c62
    have c13 := L.tl.b0.c63
    have c14 := L.tl.b0.c64
    have c15 := L.tl.b0.c65
    (try go_wp2_with fail)
    refine (G4.out _ _ (isD_n (m := m) (e := e) (s := .slice A (zl m) c) (L.getN (by simp))) L.below).mono ?_
    rintro e w1 ⟨s1, p1, hp1, hs1, hn19, hl1, hu1, v9, rfl, iz, be⟩
    clear c10 c11 c12 c13 c14 c15
    obtain ⟨A2, c2, rfl, _, in9⟩ := iz.form
    replace L := (L.step be).n in9
    clear be iz in9
    have hl9 := L.b0.lt
    obtain ⟨M1, hM1⟩ : ∃ z, mkM s1 (-(p1 : Int)) = z := ⟨_, rfl⟩
    obtain ⟨E1, hE1⟩ : ∃ z, mkE s1 (-(p1 : Int)) = z := ⟨_, rfl⟩
    rw [hM1] at L ⊢
    rw [hE1]
    have HW1 := Lib.hid (And.intro hp1 (And.intro hs1 (And.intro hl1 (And.intro hu1 (And.intro hM1 hE1)))))
    clear hp1 hs1 hn19 hl1 hu1 hM1 hE1
    replace L := L.varD w1.heap.size rfl (ng M1) A2 (zl M1) c2 E1
    have c00 := L.b0.c30
    have c01 := L.b0.c31
    have c02 := L.b0.c32
    replace L := L.varD (w1.heap.size + 1) (by simp) (ng M1) A2 (zl M1) c2 E1
    have d00 := L.tl.tl.tl.b0.c60
    have d01 := L.tl.tl.tl.b0.c61
    have d02 := L.tl.tl.tl.b0.c62
    have d03 := L.tl.tl.tl.b0.c63
    have d04 := L.tl.tl.tl.b0.c64
    have d05 := L.tl.tl.tl.b0.c65
    (try go_wp2_with fail)
    clear c00 c01 c02 d00 d01 d02 d03 d04 d05
    obtain ⟨g1, hg1⟩ : ∃ g9, w1.heap.size = g9 := ⟨_, rfl⟩
    rw [hg1] at L hl9 ⊢
    clear hg1
    have hl_g1 := hl9
    clear hl9
    refine (G6.out _ _ _ (isD_n (m := m) (e := e) (s := .slice A (zl m) c) (L.getN (by simp))) (isD_n (m := n) (e := f) (s := .slice B (zl n) d) (L.getN (by simp)))).mono ?_
    rintro e w2 ⟨rfl, be⟩
    replace L := L.step be
    clear be
    have c30 := L.tl.tl.tl.b0.c60
    have c31 := L.tl.tl.tl.b0.c61
    have c32 := L.tl.tl.tl.b0.c62
    have c33 := L.tl.tl.tl.b0.c63
    have c34 := L.tl.tl.tl.b0.c64
    have c35 := L.tl.tl.tl.b0.c65
    (try go_wp2_with fail)
    refine (G5.out _ _ (isD_n (m := n) (e := f) (s := .slice B (zl n) d) (L.getN (by simp))) L.below).mono ?_
    rintro e w3 ⟨s2, p2, hp2, hs2, hn29, hl2, hu2, v9, rfl, iz, be⟩
    clear c30 c31 c32 c33 c34 c35
    obtain ⟨A3, c3, rfl, _, in9⟩ := iz.form
    replace L := (L.step be).n in9
    clear be iz in9
    obtain ⟨M2, hM2⟩ : ∃ z, mkM s2 (-(p2 : Int)) = z := ⟨_, rfl⟩
    obtain ⟨E2, hE2⟩ : ∃ z, mkE s2 (-(p2 : Int)) = z := ⟨_, rfl⟩
    rw [hM2] at L ⊢
    rw [hE2]
    have HW2 := Lib.hid (And.intro hp2 (And.intro hs2 (And.intro hl2 (And.intro hu2 (And.intro hM2 hE2)))))
    clear hp2 hs2 hn29 hl2 hu2 hM2 hE2
    have c00 := L.b0.c30
    have f00 := L.b0.fr 0
    have c01 := L.b0.c31
    have f01 := L.b0.fr 1
    have c02 := L.b0.c32
    have f02 := L.b0.fr 2
    have P := L.putD (by omega) (by simp; omega) (ng M2) A3 (zl M2) c3 E2
    unfold put3 at P
    (try go_wp2_with fail)
    replace L := P
    clear P
    clear c00 f00 c01 f01 c02 f02
    refine (G7.out _ L.below).mono ?_
    rintro e w4 ⟨v9, rfl, iz, be⟩
    obtain ⟨A4, c4, rfl, _, in9⟩ := iz.form
    replace L := (L.step be).n in9
    clear be iz in9
    have hl9 := L.b0.lt
    replace L := L.varD w4.heap.size rfl (ng Mu) A4 (zl Mu) c4 Eu
    have c00 := L.b0.c30
    have c01 := L.b0.c31
    have c02 := L.b0.c32
    have c20 := L.tl.tl.b0.c30
    have c21 := L.tl.tl.b0.c31
    have c22 := L.tl.tl.b0.c32
    go_wp2_with fail
    clear c00 c01 c02 c20 c21 c22
    obtain ⟨gm, hgm⟩ : ∃ g9, w4.heap.size = g9 := ⟨_, rfl⟩
    rw [hgm] at L hl9 ⊢
    clear hgm
    have hl_gm := hl9
    clear hl9
    obtain ⟨hj1, hj2, hk⟩ := HJ.out
    obtain ⟨hmu, heu⟩ := HMU.out
    obtain ⟨zu, eu⟩ := HU.out
    rw [hmu] at zu
    rw [heu] at eu
    obtain ⟨hp1, hs1, hl1, hu1, hM1, hE1⟩ := HW1.out
    obtain ⟨hp2, hs2, hl2, hu2, hM2, hE2⟩ := HW2.out
    obtain ⟨q1, q2, q3, _, _⟩ := np hs1 (by omega) (show p1 ≤ 3000 by omega)
    rw [hM1] at q2
    rw [hE1] at q3
    obtain ⟨ML, hML⟩ : ∃ z, mkM (addS M1 E1 (-Mu) Eu) (min E1 Eu) = z := ⟨_, rfl⟩
    obtain ⟨EL, hEL⟩ : ∃ z, mkE (addS M1 E1 (-Mu) Eu) (min E1 Eu) = z := ⟨_, rfl⟩
    obtain ⟨l1, l2, l3, l4, l5⟩ := ep_sum (-1) hs1 hp1 (show j ≤ 300 by omega) (Or.inr rfl) ML EL (by rw [hM1, hE1, hmu, heu, Int.neg_mul, Int.one_mul]; exact hML) (by rw [hM1, hE1, hmu, heu, Int.neg_mul, Int.one_mul]; exact hEL)
    rw [hM1, hE1, hmu, heu, Int.neg_mul, Int.one_mul] at l1
    have g8 := fun x y W h i (hW : Below w.heap.size w W) => dsub_any M1 E1 Mu Eu x y W h i (by omega) (by omega) (by omega) (by omega) (HT.out W hW)
    rw [l1, hML, hEL] at g8
    obtain ⟨r1, r2, r3, _, _⟩ := np hs2 (by omega) (show p2 ≤ 3000 by omega)
    rw [hM2] at r2
    rw [hE2] at r3
    obtain ⟨MH, hMH⟩ : ∃ z, mkM (addS M2 E2 Mu Eu) (min E2 Eu) = z := ⟨_, rfl⟩
    obtain ⟨EH, hEH⟩ : ∃ z, mkE (addS M2 E2 Mu Eu) (min E2 Eu) = z := ⟨_, rfl⟩
    obtain ⟨h1, h2, h3, h4, h5⟩ := ep_sum 1 hs2 hp2 (show j ≤ 300 by omega) (Or.inl rfl) MH EH (by rw [hM2, hE2, hmu, heu, Int.one_mul]; exact hMH) (by rw [hM2, hE2, hmu, heu, Int.one_mul]; exact hEH)
    rw [hM2, hE2, hmu, heu, Int.one_mul] at h1
    have g9 := fun x y W h i (hW : Below w.heap.size w W) => dadd_any M2 E2 Mu Eu x y W h i (by omega) (by omega) (by omega) (by omega) (HT.out W hW)
    rw [h1, hMH, hEH] at g9
    rw [hj1, show ((-1 : Int) : Rat) = -1 from rfl] at l2
    rw [hj1, show ((1 : Int) : Rat) = 1 from rfl] at h2
    have HL := Lib.hid (And.intro l2 (And.intro l3 (And.intro l4 l5)))
    have HH := Lib.hid (And.intro h2 (And.intro h3 h4))
    have G8 := Lib.hid g8
    have G9 := Lib.hid g9
    have g10 := fun x W h => dsign_any ML EL x W h (by omega)
    have G10 := Lib.hid g10
    clear g8 g9 g10 l1 l2 l3 l4 l5 h1 h2 h3 h4 h5 q1 q2 q3 zu eu hmu heu hj1 hj2 hk hML hEL hMH hEH hp1 hs1 hl1 hu1 hM1 hE1 hp2 hs2 hl2 hu2 hM2 hE2 r1 r2 r3
    refine (G8.out _ _ _ (isD_n (m := M1) (e := E1) (s := .slice A2 (zl M1) c2) (L.getN (by simp))) (isD_n (m := Mu) (e := Eu) (s := .slice A4 (zl Mu) c4) (L.getN (by simp))) L.below).mono ?_
    rintro e w5 ⟨v9, rfl, iz, be⟩
    obtain ⟨A5, c5, rfl, _, in9⟩ := iz.form
    replace L := (L.step be).n in9
    clear be iz in9
    have hl9 := L.b0.lt
    replace L := L.varD w5.heap.size rfl (ng ML) A5 (zl ML) c5 EL
    have c10 := L.tl.b0.c30
    have c11 := L.tl.b0.c31
    have c12 := L.tl.b0.c32
    have c20 := L.tl.tl.b0.c30
    have c21 := L.tl.tl.b0.c31
    have c22 := L.tl.tl.b0.c32
    go_wp2_with fail
    clear c10 c11 c12 c20 c21 c22
    obtain ⟨gl, hgl⟩ : ∃ g9, w5.heap.size = g9 := ⟨_, rfl⟩
    rw [hgl] at L hl9 ⊢
    clear hgl
    have hl_gl := hl9
    clear hl9
    refine (G9.out _ _ _ (isD_n (m := M2) (e := E2) (s := .slice A3 (zl M2) c3) (L.getN (by simp))) (isD_n (m := Mu) (e := Eu) (s := .slice A4 (zl Mu) c4) (L.getN (by simp))) L.below).mono ?_
    rintro e w6 ⟨v9, rfl, iz, be⟩
    obtain ⟨A6, c6, rfl, _, in9⟩ := iz.form
    replace L := (L.step be).n in9
    clear be iz in9
    have hl9 := L.b0.lt
    replace L := L.varD w6.heap.size rfl (ng MH) A6 (zl MH) c6 EH
    have c10 := L.tl.b0.c30
    have c11 := L.tl.b0.c31
    have c12 := L.tl.b0.c32
    go_wp2_with fail
    clear c10 c11 c12
    obtain ⟨gh, hgh⟩ : ∃ g9, w6.heap.size = g9 := ⟨_, rfl⟩
    rw [hgh] at L hl9 ⊢
    clear hgh
    have hl_gh := hl9
    clear hl9
    refine (G10.out _ _ (isD_n (m := ML) (e := EL) (s := .slice A5 (zl ML) c5) (L.getN (by simp)))).mono ?_
    rintro e w7 ⟨rfl, be⟩
    replace L := L.step be
    clear be
    have L9 := L.subx (ns' := [(.slice A5 (zl ML) c5, ML.natAbs), (.slice A6 (zl MH) c6, MH.natAbs)]) (bs' := [(gl, 26, #[.bool (ng ML), .slice A5 (zl ML) c5, .int .i64 EL]), (gh, 26, #[.bool (ng MH), .slice A6 (zl MH) c6, .int .i64 EH]), (w.heap.size + 1, 28, #[.bool false, .slice none 0 0, .int .i64 0, .bool false, .slice none 0 0, .int .i64 0])]) (by simp) (by simp)
    clear L
    have L := L9
    clear L9
    obtain ⟨l2, l3, l4, l5⟩ := HL.out
    obtain ⟨h2, h3, h4⟩ := HH.out
    obtain ⟨hj1, hj2, hk⟩ := HJ.out
    obtain ⟨hp1, hs1, hl1, hu1, hM1, hE1⟩ := HW1.out
    obtain ⟨hp2, hs2, hl2, hu2, hM2, hE2⟩ := HW2.out
    have n1 : gl ≠ gh := by omega
    have n2 : w.heap.size + 1 ≠ gh := by omega
    have n3 : w.heap.size + 1 ≠ gl := by omega
    have eb := ep_hi hl2 hu2 HLB.out.2
    have h2' : dq MH EH = dq s2 (-(p2 : Int)) + dq 1 (-((k : Int) + 20)) := by rw [h2, Rat.one_mul]
    rw [← h2'] at eb
    obtain ⟨b, hb⟩ : ∃ z, -(cutQ (-(dq MH EH)) (k : Int)) = z := ⟨_, rfl⟩
    rw [hb] at eb
    obtain ⟨b1, _⟩ := np eb.1 (by omega) (show k ≤ 3000 by omega)
    have l2' : dq ML EL = dq s1 (-(p1 : Int)) - dq 1 (-((k : Int) + 20)) := by rw [l2, Rat.sub_eq_add_neg, Rat.neg_mul, Rat.one_mul]
    clear l2 h2 h2'
    rcases Int.lt_or_le ML 0 with hneg | hneg
    · have d3 : decide (cmpI ML 0 < 0) = true := decide_eq_true (by rw [cmpI_lt hneg]; omega)
      have hz := (dq_le_iff 0 ML EL)
      rw [dq_zero] at hz
      have hq : dq ML EL < 0 := Rat.not_le.1 fun h => by have := hz.1 h; omega
      rw [l2'] at hq
      have ea := ep_lo (Q := dq 0 0) hl1 hu1 HLB.out.1 (Or.inl ⟨dq_zero 0, hq⟩)
      obtain ⟨a, ha⟩ : ∃ z, cutQ (dq 0 0) (k : Int) = z := ⟨_, rfl⟩
      rw [ha] at ea
      obtain ⟨a1, _⟩ := np ea.2.1 (by omega) (show k ≤ 3000 by omega)
      have g11 := fun x W h (hW : Below w.heap.size w W) => i10out_yes 0 0 MH EH (k : Int) x W h (by rw [show zl 0 = 0 from len_zero]; omega) (by omega) (by omega) (by omega) (by omega) (by omega) HPK.out (by rw [ha]; exact a1) (by rw [hb]; exact b1) (HT.out W hW)
      rw [ha, hb] at g11
      obtain ⟨Ma, hMa⟩ : ∃ z, mkM a (-(k : Int)) = z := ⟨_, rfl⟩
      obtain ⟨Ea, hEa⟩ : ∃ z, mkE a (-(k : Int)) = z := ⟨_, rfl⟩
      obtain ⟨Nb, hNb⟩ : ∃ z, mkM b (-(k : Int)) = z := ⟨_, rfl⟩
      obtain ⟨Fb, hFb⟩ : ∃ z, mkE b (-(k : Int)) = z := ⟨_, rfl⟩
      rw [hMa, hEa, hNb, hFb] at g11
      have G11 := Lib.hid g11
      have HR := Lib.hid (And.intro ea (And.intro eb (And.intro (And.intro hMa hEa) (And.intro hNb hFb))))
      clear g11 ea eb hMa hEa hNb hFb ha hb a1 b1 hz hq hneg hl1 hu1 hs1 hM1 hE1 l2' l3 l4 l5 h3 h4 hp1 hj1 hj2 hk hl2 hu2 hs2 hM2 hE2 hp2
      have c00 := L.b0.c30
      have f00 := L.b0.fr 0
      have c01 := L.b0.c31
      have f01 := L.b0.fr 1
      have c02 := L.b0.c32
      have f02 := L.b0.fr 2
      have c10 := L.tl.b0.c30
      have c11 := L.tl.b0.c31
      have c12 := L.tl.b0.c32
      have P := L.putD (by omega) (by simp [n1, n2, n3, Ne.symm n1, Ne.symm n2, Ne.symm n3]) false none 0 0 0
      have p00 := P.b0.c30
      have p01 := P.b0.c31
      have p02 := P.b0.c32
      have p03 := P.tl.b0.c30
      have p04 := P.tl.b0.c31
      have p05 := P.tl.b0.c32
      unfold put3 at p00 p01 p02 p03 p04 p05 P
      (try go_wp2_with fail)
      replace L := P
      clear P p00 p01 p02 p03 p04 p05
      clear c00 f00 c01 f01 c02 f02 c10 c11 c12
      refine (G11.out _ _ ⟨.slice none 0 0, .slice A6 (zl MH) c6, by simp [ng], IsN.zero _, L.getN (by simp)⟩ L.below).mono ?_
      rintro e w8 ⟨v2, rfl, ii, be⟩
      obtain ⟨A8, c8, B8, d8, rfl, ia, ib⟩ := ii.form
      replace L := (((L.step be).n ib).n ia).pull2
      clear be ii ia ib
      have c00 := L.b0.c60
      have f00 := L.b0.fr 0
      have c01 := L.b0.c61
      have f01 := L.b0.fr 1
      have c02 := L.b0.c62
      have f02 := L.b0.fr 2
      have c03 := L.b0.c63
      have f03 := L.b0.fr 3
      have c04 := L.b0.c64
      have f04 := L.b0.fr 4
      have c05 := L.b0.c65
      have f05 := L.b0.fr 5
      go_wp2_with fail
      clear c00 f00 c01 f01 c02 f02 c03 f03 c04 f04 c05 f05
      obtain ⟨ea, eb, ⟨hMa, hEa⟩, hNb, hFb⟩ := HR.out
      subst hMa hEa hNb hFb
      have LP := L.putI (by omega) (by simp [n2, n3, Ne.symm n2, Ne.symm n3]) (ng (mkM a (-(k : Int)))) A8 (zl (mkM a (-(k : Int)))) c8 (mkE a (-(k : Int))) (ng (mkM b (-(k : Int)))) B8 (zl (mkM b (-(k : Int)))) d8 (mkE b (-(k : Int)))
      have k0 := LP.b0.c60
      have k1 := LP.b0.c61
      have k2 := LP.b0.c62
      have k3 := LP.b0.c63
      have k4 := LP.b0.c64
      have k5 := LP.b0.c65
      unfold put6 at k0 k1 k2 k3 k4 k5
      exact bodyPost_ret (v := .tuple #[.agg #[.bool (ng (mkM a (-(k : Int)))), .slice A8 (zl (mkM a (-(k : Int)))) c8, .int .i64 (mkE a (-(k : Int))), .bool (ng (mkM b (-(k : Int)))), .slice B8 (zl (mkM b (-(k : Int)))) d8, .int .i64 (mkE b (-(k : Int)))], .int .i64 0]) (by simp [results, Tryz.results14, go_sem, k0, k1, k2, k3, k4, k5]) rfl ⟨a, b, ea, eb, _, rfl, isI_n (LP.getN (by simp)) (LP.getN (by simp)), LP.below⟩
    · have d3 : decide (cmpI ML 0 < 0) = false := by
        refine decide_eq_false ?_
        unfold cmpI
        (repeat' split) <;> omega
      have hz := (dq_le_iff 0 ML EL)
      rw [dq_zero] at hz
      have hq := hz.2 hneg
      have ea := ep_lo (Q := dq ML EL) hl1 hu1 HLB.out.1 (Or.inr ⟨l2', hq⟩)
      obtain ⟨a, ha⟩ : ∃ z, cutQ (dq ML EL) (k : Int) = z := ⟨_, rfl⟩
      rw [ha] at ea
      obtain ⟨a1, _⟩ := np ea.2.1 (by omega) (show k ≤ 3000 by omega)
      have g11 := fun x W h (hW : Below w.heap.size w W) => i10out_yes ML EL MH EH (k : Int) x W h (by omega) (by omega) (by omega) (by omega) (by omega) (by omega) HPK.out (by rw [ha]; exact a1) (by rw [hb]; exact b1) (HT.out W hW)
      rw [ha, hb] at g11
      obtain ⟨Ma, hMa⟩ : ∃ z, mkM a (-(k : Int)) = z := ⟨_, rfl⟩
      obtain ⟨Ea, hEa⟩ : ∃ z, mkE a (-(k : Int)) = z := ⟨_, rfl⟩
      obtain ⟨Nb, hNb⟩ : ∃ z, mkM b (-(k : Int)) = z := ⟨_, rfl⟩
      obtain ⟨Fb, hFb⟩ : ∃ z, mkE b (-(k : Int)) = z := ⟨_, rfl⟩
      rw [hMa, hEa, hNb, hFb] at g11
      have G11 := Lib.hid g11
      have HR := Lib.hid (And.intro ea (And.intro eb (And.intro (And.intro hMa hEa) (And.intro hNb hFb))))
      clear g11 ea eb hMa hEa hNb hFb ha hb a1 b1 hz hq hneg hl1 hu1 hs1 hM1 hE1 l2' l3 l4 l5 h3 h4 hp1 hj1 hj2 hk hl2 hu2 hs2 hM2 hE2 hp2
      have c00 := L.b0.c30
      have f00 := L.b0.fr 0
      have c01 := L.b0.c31
      have f01 := L.b0.fr 1
      have c02 := L.b0.c32
      have f02 := L.b0.fr 2
      have c10 := L.tl.b0.c30
      have c11 := L.tl.b0.c31
      have c12 := L.tl.b0.c32
      (try go_wp2_with fail)
      clear c00 f00 c01 f01 c02 f02 c10 c11 c12
      refine (G11.out _ _ (isI_n (m := ML) (e := EL) (n := MH) (f := EH) (s := .slice A5 (zl ML) c5) (t := .slice A6 (zl MH) c6) (L.getN (by simp)) (L.getN (by simp))) L.below).mono ?_
      rintro e w8 ⟨v2, rfl, ii, be⟩
      obtain ⟨A8, c8, B8, d8, rfl, ia, ib⟩ := ii.form
      replace L := (((L.step be).n ib).n ia).pull2
      clear be ii ia ib
      have c00 := L.b0.c60
      have f00 := L.b0.fr 0
      have c01 := L.b0.c61
      have f01 := L.b0.fr 1
      have c02 := L.b0.c62
      have f02 := L.b0.fr 2
      have c03 := L.b0.c63
      have f03 := L.b0.fr 3
      have c04 := L.b0.c64
      have f04 := L.b0.fr 4
      have c05 := L.b0.c65
      have f05 := L.b0.fr 5
      go_wp2_with fail
      clear c00 f00 c01 f01 c02 f02 c03 f03 c04 f04 c05 f05
      obtain ⟨ea, eb, ⟨hMa, hEa⟩, hNb, hFb⟩ := HR.out
      subst hMa hEa hNb hFb
      have LP := L.putI (by omega) (by simp [n2, n3, Ne.symm n2, Ne.symm n3]) (ng (mkM a (-(k : Int)))) A8 (zl (mkM a (-(k : Int)))) c8 (mkE a (-(k : Int))) (ng (mkM b (-(k : Int)))) B8 (zl (mkM b (-(k : Int)))) d8 (mkE b (-(k : Int)))
      have k0 := LP.b0.c60
      have k1 := LP.b0.c61
      have k2 := LP.b0.c62
      have k3 := LP.b0.c63
      have k4 := LP.b0.c64
      have k5 := LP.b0.c65
      unfold put6 at k0 k1 k2 k3 k4 k5
      exact bodyPost_ret (v := .tuple #[.agg #[.bool (ng (mkM a (-(k : Int)))), .slice A8 (zl (mkM a (-(k : Int)))) c8, .int .i64 (mkE a (-(k : Int))), .bool (ng (mkM b (-(k : Int)))), .slice B8 (zl (mkM b (-(k : Int)))) d8, .int .i64 (mkE b (-(k : Int)))], .int .i64 0]) (by simp [results, Tryz.results14, go_sem, k0, k1, k2, k3, k4, k5]) rfl ⟨a, b, ea, eb, _, rfl, isI_n (LP.getN (by simp)) (LP.getN (by simp)), LP.below⟩
  · have d2 : decide (cn < 0) = false := decide_eq_false (by omega)
    go_enter Tryz.func14, Tryz.ntmps14
    have L := ((L0.varI (w.heap.size) (by simp) (ng m) A (zl m) c e (ng m) B (zl m) d e).varI (w.heap.size + 1) (by simp) false none 0 0 0 false none 0 0 0)
    have c00 := L.b0.c60
    have f00 := L.b0.fr 0
    have c01 := L.b0.c61
    have f01 := L.b0.fr 1
    have c02 := L.b0.c62
    have f02 := L.b0.fr 2
    have c03 := L.b0.c63
    have f03 := L.b0.fr 3
    have c04 := L.b0.c64
    have f04 := L.b0.fr 4
    have c05 := L.b0.c65
    have f05 := L.b0.fr 5
    (try go_wp2_with fail)
    refine (HP.out _).mono ?_
    rintro e9 w' ⟨rfl, rfl⟩
    (try go_wp2_with fail)
    replace L := L.drew
    clear c00 f00 c01 f01 c02 f02 c03 f03 c04 f04 c05 f05
    have c10 := L.tl.b0.c60
    have c11 := L.tl.b0.c61
    have c12 := L.tl.b0.c62
    have c13 := L.tl.b0.c63
    have c14 := L.tl.b0.c64
    have c15 := L.tl.b0.c65
    go_region_held3 (fun w' => w'.cell? ⟨w.heap.size, 0, none⟩ = some (.bool (ng m)) ∧ w'.cell? ⟨w.heap.size, 1, none⟩ = some (.slice A (zl m) c) ∧ w'.cell? ⟨w.heap.size, 2, none⟩ = some (.int .i64 e) ∧ w'.cell? ⟨w.heap.size, 3, none⟩ = some (.bool (ng m)) ∧ w'.cell? ⟨w.heap.size, 4, none⟩ = some (.slice B (zl m) d) ∧ w'.cell? ⟨w.heap.size, 5, none⟩ = some (.int .i64 e)) (first | (with_reducible exact ⟨L.tl.b0.c60, L.tl.b0.c61, L.tl.b0.c62, L.tl.b0.c63, L.tl.b0.c64, L.tl.b0.c65⟩) | exact ⟨L.tl.b0.c60, L.tl.b0.c61, L.tl.b0.c62, L.tl.b0.c63, L.tl.b0.c64, L.tl.b0.c65⟩) (first | (go_at_call 55; (with_reducible refine (G1.out _ _ ?_ ).mono ?_); (· (refine isI_n (L.getN ?_) (L.getN ?_); all_goals (repeat (first | (with_reducible exact List.mem_cons_self) | apply List.mem_cons_of_mem)))); rintro e wh ⟨rfl, be⟩; replace L := L.step be; clear be) | (go_at_call 57; (with_reducible refine (G2.out _ ?_ ).mono ?_); (· exact L.below); rintro e wh ⟨vh, rfl, id, be⟩; obtain ⟨A1, c1, rfl, _, in9⟩ := id.form; replace L := (L.step be).n in9; clear be id in9) | (go_at_call 56; (with_reducible refine (G3.out _ _ _ ?_ ?_ ).mono ?_); (· (refine isD_n (L.getN ?_); (repeat (first | (with_reducible exact List.mem_cons_self) | apply List.mem_cons_of_mem)))); (· (refine isD_n (L.getN ?_); (repeat (first | (with_reducible exact List.mem_cons_self) | apply List.mem_cons_of_mem)))); rintro e wh ⟨rfl, be⟩; replace L := L.step be; clear be))
    clear c10 c11 c12 c13 c14 c15
    have c10 := L.tl.b0.c60
    have c11 := L.tl.b0.c61
    have c12 := L.tl.b0.c62
    have c13 := L.tl.b0.c63
    have c14 := L.tl.b0.c64
    have c15 := L.tl.b0.c65
    (try go_wp2_with fail)
    refine (G4.out _ _ (isD_n (m := m) (e := e) (s := .slice A (zl m) c) (L.getN (by simp))) L.below).mono ?_
    rintro e w1 ⟨s1, p1, hp1, hs1, hn19, hl1, hu1, v9, rfl, iz, be⟩
    clear c10 c11 c12 c13 c14 c15
    obtain ⟨A2, c2, rfl, _, in9⟩ := iz.form
    replace L := (L.step be).n in9
    clear be iz in9
    have hl9 := L.b0.lt
    obtain ⟨M1, hM1⟩ : ∃ z, mkM s1 (-(p1 : Int)) = z := ⟨_, rfl⟩
    obtain ⟨E1, hE1⟩ : ∃ z, mkE s1 (-(p1 : Int)) = z := ⟨_, rfl⟩
    rw [hM1] at L ⊢
    rw [hE1]
    have HW1 := Lib.hid (And.intro hp1 (And.intro hs1 (And.intro hl1 (And.intro hu1 (And.intro hM1 hE1)))))
    clear hp1 hs1 hn19 hl1 hu1 hM1 hE1
    replace L := L.varD w1.heap.size rfl (ng M1) A2 (zl M1) c2 E1
    have c00 := L.b0.c30
    have c01 := L.b0.c31
    have c02 := L.b0.c32
    replace L := L.varD (w1.heap.size + 1) (by simp) (ng M1) A2 (zl M1) c2 E1
    have d00 := L.tl.tl.tl.b0.c60
    have d01 := L.tl.tl.tl.b0.c61
    have d02 := L.tl.tl.tl.b0.c62
    have d03 := L.tl.tl.tl.b0.c63
    have d04 := L.tl.tl.tl.b0.c64
    have d05 := L.tl.tl.tl.b0.c65
    (try go_wp2_with fail)
    clear c00 c01 c02 d00 d01 d02 d03 d04 d05
    obtain ⟨g1, hg1⟩ : ∃ g9, w1.heap.size = g9 := ⟨_, rfl⟩
    rw [hg1] at L hl9 ⊢
    clear hg1
    have hl_g1 := hl9
    clear hl9
    refine (G6.out _ _ _ (isD_n (m := m) (e := e) (s := .slice A (zl m) c) (L.getN (by simp))) (isD_n (m := m) (e := e) (s := .slice B (zl m) d) (L.getN (by simp)))).mono ?_
    rintro e w2 ⟨rfl, be⟩
    replace L := L.step be
    clear be
    (try go_wp2_with fail)
    refine (G7.out _ L.below).mono ?_
    rintro e w3 ⟨v9, rfl, iz, be⟩
    obtain ⟨A4, c4, rfl, _, in9⟩ := iz.form
    replace L := (L.step be).n in9
    clear be iz in9
    have hl9 := L.b0.lt
    replace L := L.varD w3.heap.size rfl (ng Mu) A4 (zl Mu) c4 Eu
    have c00 := L.b0.c30
    have c01 := L.b0.c31
    have c02 := L.b0.c32
    have c20 := L.tl.tl.b0.c30
    have c21 := L.tl.tl.b0.c31
    have c22 := L.tl.tl.b0.c32
    go_wp2_with fail
    clear c00 c01 c02 c20 c21 c22
    obtain ⟨gm, hgm⟩ : ∃ g9, w3.heap.size = g9 := ⟨_, rfl⟩
    rw [hgm] at L hl9 ⊢
    clear hgm
    have hl_gm := hl9
    clear hl9
    obtain ⟨hj1, hj2, hk⟩ := HJ.out
    obtain ⟨hmu, heu⟩ := HMU.out
    obtain ⟨zu, eu⟩ := HU.out
    rw [hmu] at zu
    rw [heu] at eu
    obtain ⟨hp1, hs1, hl1, hu1, hM1, hE1⟩ := HW1.out
    obtain ⟨q1, q2, q3, _, _⟩ := np hs1 (by omega) (show p1 ≤ 3000 by omega)
    rw [hM1] at q2
    rw [hE1] at q3
    obtain ⟨ML, hML⟩ : ∃ z, mkM (addS M1 E1 (-Mu) Eu) (min E1 Eu) = z := ⟨_, rfl⟩
    obtain ⟨EL, hEL⟩ : ∃ z, mkE (addS M1 E1 (-Mu) Eu) (min E1 Eu) = z := ⟨_, rfl⟩
    obtain ⟨l1, l2, l3, l4, l5⟩ := ep_sum (-1) hs1 hp1 (show j ≤ 300 by omega) (Or.inr rfl) ML EL (by rw [hM1, hE1, hmu, heu, Int.neg_mul, Int.one_mul]; exact hML) (by rw [hM1, hE1, hmu, heu, Int.neg_mul, Int.one_mul]; exact hEL)
    rw [hM1, hE1, hmu, heu, Int.neg_mul, Int.one_mul] at l1
    have g8 := fun x y W h i (hW : Below w.heap.size w W) => dsub_any M1 E1 Mu Eu x y W h i (by omega) (by omega) (by omega) (by omega) (HT.out W hW)
    rw [l1, hML, hEL] at g8
    obtain ⟨MH, hMH⟩ : ∃ z, mkM (addS M1 E1 Mu Eu) (min E1 Eu) = z := ⟨_, rfl⟩
    obtain ⟨EH, hEH⟩ : ∃ z, mkE (addS M1 E1 Mu Eu) (min E1 Eu) = z := ⟨_, rfl⟩
    obtain ⟨h1, h2, h3, h4, h5⟩ := ep_sum 1 hs1 hp1 (show j ≤ 300 by omega) (Or.inl rfl) MH EH (by rw [hM1, hE1, hmu, heu, Int.one_mul]; exact hMH) (by rw [hM1, hE1, hmu, heu, Int.one_mul]; exact hEH)
    rw [hM1, hE1, hmu, heu, Int.one_mul] at h1
    have g9 := fun x y W h i (hW : Below w.heap.size w W) => dadd_any M1 E1 Mu Eu x y W h i (by omega) (by omega) (by omega) (by omega) (HT.out W hW)
    rw [h1, hMH, hEH] at g9
    rw [hj1, show ((-1 : Int) : Rat) = -1 from rfl] at l2
    rw [hj1, show ((1 : Int) : Rat) = 1 from rfl] at h2
    have HL := Lib.hid (And.intro l2 (And.intro l3 (And.intro l4 l5)))
    have HH := Lib.hid (And.intro h2 (And.intro h3 h4))
    have G8 := Lib.hid g8
    have G9 := Lib.hid g9
    have g10 := fun x W h => dsign_any ML EL x W h (by omega)
    have G10 := Lib.hid g10
    clear g8 g9 g10 l1 l2 l3 l4 l5 h1 h2 h3 h4 h5 q1 q2 q3 zu eu hmu heu hj1 hj2 hk hML hEL hMH hEH hp1 hs1 hl1 hu1 hM1 hE1
    refine (G8.out _ _ _ (isD_n (m := M1) (e := E1) (s := .slice A2 (zl M1) c2) (L.getN (by simp))) (isD_n (m := Mu) (e := Eu) (s := .slice A4 (zl Mu) c4) (L.getN (by simp))) L.below).mono ?_
    rintro e w4 ⟨v9, rfl, iz, be⟩
    obtain ⟨A5, c5, rfl, _, in9⟩ := iz.form
    replace L := (L.step be).n in9
    clear be iz in9
    have hl9 := L.b0.lt
    replace L := L.varD w4.heap.size rfl (ng ML) A5 (zl ML) c5 EL
    have c10 := L.tl.b0.c30
    have c11 := L.tl.b0.c31
    have c12 := L.tl.b0.c32
    have c20 := L.tl.tl.b0.c30
    have c21 := L.tl.tl.b0.c31
    have c22 := L.tl.tl.b0.c32
    go_wp2_with fail
    clear c10 c11 c12 c20 c21 c22
    obtain ⟨gl, hgl⟩ : ∃ g9, w4.heap.size = g9 := ⟨_, rfl⟩
    rw [hgl] at L hl9 ⊢
    clear hgl
    have hl_gl := hl9
    clear hl9
    refine (G9.out _ _ _ (isD_n (m := M1) (e := E1) (s := .slice A2 (zl M1) c2) (L.getN (by simp))) (isD_n (m := Mu) (e := Eu) (s := .slice A4 (zl Mu) c4) (L.getN (by simp))) L.below).mono ?_
    rintro e w5 ⟨v9, rfl, iz, be⟩
    obtain ⟨A6, c6, rfl, _, in9⟩ := iz.form
    replace L := (L.step be).n in9
    clear be iz in9
    have hl9 := L.b0.lt
    replace L := L.varD w5.heap.size rfl (ng MH) A6 (zl MH) c6 EH
    have c10 := L.tl.b0.c30
    have c11 := L.tl.b0.c31
    have c12 := L.tl.b0.c32
    go_wp2_with fail
    clear c10 c11 c12
    obtain ⟨gh, hgh⟩ : ∃ g9, w5.heap.size = g9 := ⟨_, rfl⟩
    rw [hgh] at L hl9 ⊢
    clear hgh
    have hl_gh := hl9
    clear hl9
    refine (G10.out _ _ (isD_n (m := ML) (e := EL) (s := .slice A5 (zl ML) c5) (L.getN (by simp)))).mono ?_
    rintro e w6 ⟨rfl, be⟩
    replace L := L.step be
    clear be
    have L9 := L.subx (ns' := [(.slice A5 (zl ML) c5, ML.natAbs), (.slice A6 (zl MH) c6, MH.natAbs)]) (bs' := [(gl, 26, #[.bool (ng ML), .slice A5 (zl ML) c5, .int .i64 EL]), (gh, 26, #[.bool (ng MH), .slice A6 (zl MH) c6, .int .i64 EH]), (w.heap.size + 1, 28, #[.bool false, .slice none 0 0, .int .i64 0, .bool false, .slice none 0 0, .int .i64 0])]) (by simp) (by simp)
    clear L
    have L := L9
    clear L9
    obtain ⟨l2, l3, l4, l5⟩ := HL.out
    obtain ⟨h2, h3, h4⟩ := HH.out
    obtain ⟨hj1, hj2, hk⟩ := HJ.out
    obtain ⟨hp1, hs1, hl1, hu1, hM1, hE1⟩ := HW1.out
    have n1 : gl ≠ gh := by omega
    have n2 : w.heap.size + 1 ≠ gh := by omega
    have n3 : w.heap.size + 1 ≠ gl := by omega
    have eb := ep_hi hl1 hu1 HLB.out.1
    have h2' : dq MH EH = dq s1 (-(p1 : Int)) + dq 1 (-((k : Int) + 20)) := by rw [h2, Rat.one_mul]
    rw [← h2'] at eb
    obtain ⟨b, hb⟩ : ∃ z, -(cutQ (-(dq MH EH)) (k : Int)) = z := ⟨_, rfl⟩
    rw [hb] at eb
    obtain ⟨b1, _⟩ := np eb.1 (by omega) (show k ≤ 3000 by omega)
    have l2' : dq ML EL = dq s1 (-(p1 : Int)) - dq 1 (-((k : Int) + 20)) := by rw [l2, Rat.sub_eq_add_neg, Rat.neg_mul, Rat.one_mul]
    clear l2 h2 h2'
    rcases Int.lt_or_le ML 0 with hneg | hneg
    · have d3 : decide (cmpI ML 0 < 0) = true := decide_eq_true (by rw [cmpI_lt hneg]; omega)
      have hz := (dq_le_iff 0 ML EL)
      rw [dq_zero] at hz
      have hq : dq ML EL < 0 := Rat.not_le.1 fun h => by have := hz.1 h; omega
      rw [l2'] at hq
      have ea := ep_lo (Q := dq 0 0) hl1 hu1 HLB.out.1 (Or.inl ⟨dq_zero 0, hq⟩)
      obtain ⟨a, ha⟩ : ∃ z, cutQ (dq 0 0) (k : Int) = z := ⟨_, rfl⟩
      rw [ha] at ea
      obtain ⟨a1, _⟩ := np ea.2.1 (by omega) (show k ≤ 3000 by omega)
      have g11 := fun x W h (hW : Below w.heap.size w W) => i10out_yes 0 0 MH EH (k : Int) x W h (by rw [show zl 0 = 0 from len_zero]; omega) (by omega) (by omega) (by omega) (by omega) (by omega) HPK.out (by rw [ha]; exact a1) (by rw [hb]; exact b1) (HT.out W hW)
      rw [ha, hb] at g11
      obtain ⟨Ma, hMa⟩ : ∃ z, mkM a (-(k : Int)) = z := ⟨_, rfl⟩
      obtain ⟨Ea, hEa⟩ : ∃ z, mkE a (-(k : Int)) = z := ⟨_, rfl⟩
      obtain ⟨Nb, hNb⟩ : ∃ z, mkM b (-(k : Int)) = z := ⟨_, rfl⟩
      obtain ⟨Fb, hFb⟩ : ∃ z, mkE b (-(k : Int)) = z := ⟨_, rfl⟩
      rw [hMa, hEa, hNb, hFb] at g11
      have G11 := Lib.hid g11
      have HR := Lib.hid (And.intro ea (And.intro eb (And.intro (And.intro hMa hEa) (And.intro hNb hFb))))
      clear g11 ea eb hMa hEa hNb hFb ha hb a1 b1 hz hq hneg hl1 hu1 hs1 hM1 hE1 l2' l3 l4 l5 h3 h4 hp1 hj1 hj2 hk
      have c00 := L.b0.c30
      have f00 := L.b0.fr 0
      have c01 := L.b0.c31
      have f01 := L.b0.fr 1
      have c02 := L.b0.c32
      have f02 := L.b0.fr 2
      have c10 := L.tl.b0.c30
      have c11 := L.tl.b0.c31
      have c12 := L.tl.b0.c32
      have P := L.putD (by omega) (by simp [n1, n2, n3, Ne.symm n1, Ne.symm n2, Ne.symm n3]) false none 0 0 0
      have p00 := P.b0.c30
      have p01 := P.b0.c31
      have p02 := P.b0.c32
      have p03 := P.tl.b0.c30
      have p04 := P.tl.b0.c31
      have p05 := P.tl.b0.c32
      unfold put3 at p00 p01 p02 p03 p04 p05 P
      (try go_wp2_with fail)
      replace L := P
      clear P p00 p01 p02 p03 p04 p05
      clear c00 f00 c01 f01 c02 f02 c10 c11 c12
      refine (G11.out _ _ ⟨.slice none 0 0, .slice A6 (zl MH) c6, by simp [ng], IsN.zero _, L.getN (by simp)⟩ L.below).mono ?_
      rintro e w7 ⟨v2, rfl, ii, be⟩
      obtain ⟨A8, c8, B8, d8, rfl, ia, ib⟩ := ii.form
      replace L := (((L.step be).n ib).n ia).pull2
      clear be ii ia ib
      have c00 := L.b0.c60
      have f00 := L.b0.fr 0
      have c01 := L.b0.c61
      have f01 := L.b0.fr 1
      have c02 := L.b0.c62
      have f02 := L.b0.fr 2
      have c03 := L.b0.c63
      have f03 := L.b0.fr 3
      have c04 := L.b0.c64
      have f04 := L.b0.fr 4
      have c05 := L.b0.c65
      have f05 := L.b0.fr 5
      go_wp2_with fail
      clear c00 f00 c01 f01 c02 f02 c03 f03 c04 f04 c05 f05
      obtain ⟨ea, eb, ⟨hMa, hEa⟩, hNb, hFb⟩ := HR.out
      subst hMa hEa hNb hFb
      have LP := L.putI (by omega) (by simp [n2, n3, Ne.symm n2, Ne.symm n3]) (ng (mkM a (-(k : Int)))) A8 (zl (mkM a (-(k : Int)))) c8 (mkE a (-(k : Int))) (ng (mkM b (-(k : Int)))) B8 (zl (mkM b (-(k : Int)))) d8 (mkE b (-(k : Int)))
      have k0 := LP.b0.c60
      have k1 := LP.b0.c61
      have k2 := LP.b0.c62
      have k3 := LP.b0.c63
      have k4 := LP.b0.c64
      have k5 := LP.b0.c65
      unfold put6 at k0 k1 k2 k3 k4 k5
      exact bodyPost_ret (v := .tuple #[.agg #[.bool (ng (mkM a (-(k : Int)))), .slice A8 (zl (mkM a (-(k : Int)))) c8, .int .i64 (mkE a (-(k : Int))), .bool (ng (mkM b (-(k : Int)))), .slice B8 (zl (mkM b (-(k : Int)))) d8, .int .i64 (mkE b (-(k : Int)))], .int .i64 0]) (by simp [results, Tryz.results14, go_sem, k0, k1, k2, k3, k4, k5]) rfl ⟨a, b, ea, eb, _, rfl, isI_n (LP.getN (by simp)) (LP.getN (by simp)), LP.below⟩
    · have d3 : decide (cmpI ML 0 < 0) = false := by
        refine decide_eq_false ?_
        unfold cmpI
        (repeat' split) <;> omega
      have hz := (dq_le_iff 0 ML EL)
      rw [dq_zero] at hz
      have hq := hz.2 hneg
      have ea := ep_lo (Q := dq ML EL) hl1 hu1 HLB.out.1 (Or.inr ⟨l2', hq⟩)
      obtain ⟨a, ha⟩ : ∃ z, cutQ (dq ML EL) (k : Int) = z := ⟨_, rfl⟩
      rw [ha] at ea
      obtain ⟨a1, _⟩ := np ea.2.1 (by omega) (show k ≤ 3000 by omega)
      have g11 := fun x W h (hW : Below w.heap.size w W) => i10out_yes ML EL MH EH (k : Int) x W h (by omega) (by omega) (by omega) (by omega) (by omega) (by omega) HPK.out (by rw [ha]; exact a1) (by rw [hb]; exact b1) (HT.out W hW)
      rw [ha, hb] at g11
      obtain ⟨Ma, hMa⟩ : ∃ z, mkM a (-(k : Int)) = z := ⟨_, rfl⟩
      obtain ⟨Ea, hEa⟩ : ∃ z, mkE a (-(k : Int)) = z := ⟨_, rfl⟩
      obtain ⟨Nb, hNb⟩ : ∃ z, mkM b (-(k : Int)) = z := ⟨_, rfl⟩
      obtain ⟨Fb, hFb⟩ : ∃ z, mkE b (-(k : Int)) = z := ⟨_, rfl⟩
      rw [hMa, hEa, hNb, hFb] at g11
      have G11 := Lib.hid g11
      have HR := Lib.hid (And.intro ea (And.intro eb (And.intro (And.intro hMa hEa) (And.intro hNb hFb))))
      clear g11 ea eb hMa hEa hNb hFb ha hb a1 b1 hz hq hneg hl1 hu1 hs1 hM1 hE1 l2' l3 l4 l5 h3 h4 hp1 hj1 hj2 hk
      have c00 := L.b0.c30
      have f00 := L.b0.fr 0
      have c01 := L.b0.c31
      have f01 := L.b0.fr 1
      have c02 := L.b0.c32
      have f02 := L.b0.fr 2
      have c10 := L.tl.b0.c30
      have c11 := L.tl.b0.c31
      have c12 := L.tl.b0.c32
      (try go_wp2_with fail)
      clear c00 f00 c01 f01 c02 f02 c10 c11 c12
      refine (G11.out _ _ (isI_n (m := ML) (e := EL) (n := MH) (f := EH) (s := .slice A5 (zl ML) c5) (t := .slice A6 (zl MH) c6) (L.getN (by simp)) (L.getN (by simp))) L.below).mono ?_
      rintro e w7 ⟨v2, rfl, ii, be⟩
      obtain ⟨A8, c8, B8, d8, rfl, ia, ib⟩ := ii.form
      replace L := (((L.step be).n ib).n ia).pull2
      clear be ii ia ib
      have c00 := L.b0.c60
      have f00 := L.b0.fr 0
      have c01 := L.b0.c61
      have f01 := L.b0.fr 1
      have c02 := L.b0.c62
      have f02 := L.b0.fr 2
      have c03 := L.b0.c63
      have f03 := L.b0.fr 3
      have c04 := L.b0.c64
      have f04 := L.b0.fr 4
      have c05 := L.b0.c65
      have f05 := L.b0.fr 5
      go_wp2_with fail
      clear c00 f00 c01 f01 c02 f02 c03 f03 c04 f04 c05 f05
      obtain ⟨ea, eb, ⟨hMa, hEa⟩, hNb, hFb⟩ := HR.out
      subst hMa hEa hNb hFb
      have LP := L.putI (by omega) (by simp [n2, n3, Ne.symm n2, Ne.symm n3]) (ng (mkM a (-(k : Int)))) A8 (zl (mkM a (-(k : Int)))) c8 (mkE a (-(k : Int))) (ng (mkM b (-(k : Int)))) B8 (zl (mkM b (-(k : Int)))) d8 (mkE b (-(k : Int)))
      have k0 := LP.b0.c60
      have k1 := LP.b0.c61
      have k2 := LP.b0.c62
      have k3 := LP.b0.c63
      have k4 := LP.b0.c64
      have k5 := LP.b0.c65
      unfold put6 at k0 k1 k2 k3 k4 k5
      exact bodyPost_ret (v := .tuple #[.agg #[.bool (ng (mkM a (-(k : Int)))), .slice A8 (zl (mkM a (-(k : Int)))) c8, .int .i64 (mkE a (-(k : Int))), .bool (ng (mkM b (-(k : Int)))), .slice B8 (zl (mkM b (-(k : Int)))) d8, .int .i64 (mkE b (-(k : Int)))], .int .i64 0]) (by simp [results, Tryz.results14, go_sem, k0, k1, k2, k3, k4, k5]) rfl ⟨a, b, ea, eb, _, rfl, isI_n (LP.getN (by simp)) (LP.getN (by simp)), LP.below⟩

theorem n2000 : mkM 2000 0 = 125 ∧ mkE 2000 0 = 4 := by
  have h2 : AbP 2000 11 := by unfold AbP; decide
  obtain ⟨a1, _, _, _, _, a6⟩ := nf h2 (by omega)
  have hv : Dv 125 4 := Or.inr ⟨by decide, by decide +kernel⟩
  exact dv_uniq (mk_ok a1) hv (by rw [a6]; decide +kernel)
theorem dv_00 : Dv 0 0 := Or.inl ⟨rfl, rfl⟩
theorem zl_c (x : Int) (h : x.natAbs < 4294967296) : zl x ≤ 1 := len_le1 h

set_option maxHeartbeats 8000000 in
theorem awake14_any (w : World) (hT : Tab w) :
    Calls Tryz.prog 10 #[] w (RetB w true) := by
  have HT := Lib.hid (fun W (hW : Below w.heap.size w W) => hT.mono hW)
  have z0 : zl 0 ≤ 1 := zl_c 0 (by decide)
  have z5 : zl 125 ≤ 1 := zl_c 125 (by decide)
  have hd0 : dq 0 0 = 0 := dq_zero 0
  have g1 := fun W => of14_any 0 0 W (by omega) (by omega)
  rw [nf00.1, nf00.2] at g1
  have g2 := fun v W h (hW : Below w.heap.size w W) => xexp_yes 0 0 0 0 3 v W h (by omega) (by omega) (by omega) (by omega) dv_00 dv_00 (by decide +kernel) (by omega) (by rw [hd0]; decide +kernel) (hT.mono hW)
  have g3 := fun W => of14_any 2000 2000 W (by omega) (by omega)
  rw [n2000.1, n2000.2] at g3
  have dv5 : Dv 125 4 := Or.inr ⟨by decide, by decide +kernel⟩
  have g4 := fun v W h (hW : Below w.heap.size w W) => xexp_large 125 4 125 4 3 v W h (by omega) (by omega) (by omega) (by omega) dv5 dv5 (by decide +kernel) (by omega) (by decide +kernel) (hT.mono hW)
  have g5 := fun W => (show Calls Tryz.prog 29 #[.int .i64 1] W (RetP W 1 1) from rofn7_any 1 W (by omega) (by omega))
  have G1 := Lib.hid g1
  have G2 := Lib.hid g2
  have G3 := Lib.hid g3
  have G4 := Lib.hid g4
  have G5 := Lib.hid g5
  clear g1 g2 g3 g4 g5 hT dv5
  go_enter Tryz.func10, Tryz.ntmps10
  go_wp2_with fail
  have L := Lq.mk0 w
  (try go_wp2_with fail)
  refine (G1.out _).mono ?_
  rintro e w1 ⟨vv, rfl, ii, be⟩
  obtain ⟨A1, c1, B1, d1, rfl, ia, ib⟩ := ii.form
  replace L := ((L.step be).n ib).n ia
  clear be ii ia ib
  (try go_wp2_with fail)
  refine (G2.out _ _ (isI_n (m := 0) (e := 0) (n := 0) (f := 0) (s := .slice A1 (zl 0) c1) (t := .slice B1 (zl 0) d1) (L.getN (by simp)) (L.getN (by simp))) L.below).mono ?_
  intro e9 w2 hr9
  obtain ⟨a, b, ea, eb, vv, rfl, ii, be⟩ := hr9.ab
  obtain ⟨A2, c2, B2, d2, rfl, ia, ib⟩ := ii.form
  replace L := ((L.step be).n ib).n ia
  clear be ii ia ib hr9
  obtain ⟨x1, x2, x3, x4, x5⟩ := np ea.2.1 (by omega) (show 3 ≤ 3000 by omega)
  obtain ⟨y1, y2, y3, y4, y5⟩ := np eb.1 (by omega) (show 3 ≤ 3000 by omega)
  rw [hd0] at ea eb
  have q1 := ea.2.2.1.le exp_0.2
  have q2 := exp_0.1.le eb.2.2
  have g6 : ∀ v u W, IsI W v (mkM a (-((3 : Nat) : Int))) (mkE a (-((3 : Nat) : Int))) (mkM b (-((3 : Nat) : Int))) (mkE b (-((3 : Nat) : Int))) → IsP W u 1 1 → Calls Tryz.prog 28 #[v, u] W (RetB W true) := fun v u W h k9 => by
    have s := r10has_any _ _ _ _ 1 1 v u W h k9 (by omega) (by omega) (by omega) (by omega) (Nat.le_trans (zl_c 1 (by decide)) (by omega)) (Nat.le_trans (len_le1 (by decide)) (by omega))
    rwa [(hasB_iff _ _ _ _ _ _ (by omega)).2 ⟨by rw [x5]; exact q1, by rw [y5]; exact q2⟩] at s
  obtain ⟨M, hM⟩ : ∃ z, mkM a (-((3 : Nat) : Int)) = z := ⟨_, rfl⟩
  obtain ⟨E, hE⟩ : ∃ z, mkE a (-((3 : Nat) : Int)) = z := ⟨_, rfl⟩
  obtain ⟨N, hN⟩ : ∃ z, mkM b (-((3 : Nat) : Int)) = z := ⟨_, rfl⟩
  obtain ⟨G, hG⟩ : ∃ z, mkE b (-((3 : Nat) : Int)) = z := ⟨_, rfl⟩
  rw [hM, hE, hN, hG] at g6
  rw [hM, hN] at L ⊢
  rw [hE, hG]
  have G6 := Lib.hid g6
  clear g6 x1 x2 x3 x4 x5 y1 y2 y3 y4 y5 q1 q2 ea eb hM hE hN hG G1 G2
  replace L := L.varI w2.heap.size rfl (ng M) A2 (zl M) c2 E (ng N) B2 (zl N) d2 G
  have cel00 := L.b0.c60
  have cel01 := L.b0.c61
  have cel02 := L.b0.c62
  have cel03 := L.b0.c63
  have cel04 := L.b0.c64
  have cel05 := L.b0.c65
  go_wp2_with fail
  clear cel00 cel01 cel02 cel03 cel04 cel05
  obtain ⟨b1, hb1⟩ : ∃ g9, w2.heap.size = g9 := ⟨_, rfl⟩
  rw [hb1] at L ⊢
  clear hb1
  refine (G3.out _).mono ?_
  rintro e w3 ⟨vv, rfl, ii, be⟩
  obtain ⟨A3, c3, B3, d3, rfl, ia, ib⟩ := ii.form
  replace L := ((L.step be).n ib).n ia
  clear be ii ia ib
  have hl2 := L.b0.lt
  (try go_wp2_with fail)
  refine (G4.out _ _ (isI_n (m := 125) (e := 4) (n := 125) (f := 4) (s := .slice A3 (zl 125) c3) (t := .slice B3 (zl 125) d3) (L.getN (by simp)) (L.getN (by simp))) L.below).mono ?_
  rintro e w4 ⟨vv, rfl, ii, be⟩
  obtain ⟨A4, c4, B4, d4, rfl, ia, ib⟩ := ii.form
  replace L := ((L.step be).n ib).n ia
  clear be ii ia ib hl2
  have hl2 := L.b0.lt
  replace L := L.varI w4.heap.size rfl (ng 0) A4 (zl 0) c4 0 (ng 0) B4 (zl 0) d4 0
  have cel00 := L.b0.c60
  have cel01 := L.b0.c61
  have cel02 := L.b0.c62
  have cel03 := L.b0.c63
  have cel04 := L.b0.c64
  have cel05 := L.b0.c65
  go_wp2_with fail
  clear cel00 cel01 cel02 cel03 cel04 cel05
  obtain ⟨b2, hb2⟩ : ∃ g9, w4.heap.size = g9 := ⟨_, rfl⟩
  rw [hb2] at L hl2 ⊢
  clear hb2
  replace L := L.drew
  have cel10 := L.tl.b0.c60
  have cel11 := L.tl.b0.c61
  have cel12 := L.tl.b0.c62
  have cel13 := L.tl.b0.c63
  have cel14 := L.tl.b0.c64
  have cel15 := L.tl.b0.c65
  go_region_held3 (fun w' => w'.cell? ⟨b1, 0, none⟩ = some (.bool (ng M)) ∧ w'.cell? ⟨b1, 1, none⟩ = some (.slice A2 (zl M) c2) ∧ w'.cell? ⟨b1, 2, none⟩ = some (.int .i64 E) ∧ w'.cell? ⟨b1, 3, none⟩ = some (.bool (ng N)) ∧ w'.cell? ⟨b1, 4, none⟩ = some (.slice B2 (zl N) d2) ∧ w'.cell? ⟨b1, 5, none⟩ = some (.int .i64 G)) (first | (with_reducible exact ⟨L.tl.b0.c60, L.tl.b0.c61, L.tl.b0.c62, L.tl.b0.c63, L.tl.b0.c64, L.tl.b0.c65⟩) | exact ⟨L.tl.b0.c60, L.tl.b0.c61, L.tl.b0.c62, L.tl.b0.c63, L.tl.b0.c64, L.tl.b0.c65⟩) (first | (go_at_call 29; (with_reducible refine (G5.out _ ).mono ?_); rintro e wh ⟨vh, rfl, iq, be⟩; replace L := (L.step be).q iq; clear be iq) | (go_at_call 28; (with_reducible refine (G6.out _ _ _ ?_ ?_ ).mono ?_); (· (refine isI_n (L.getN ?_) (L.getN ?_); all_goals (repeat (first | (with_reducible exact List.mem_cons_self) | apply List.mem_cons_of_mem)))); (· (refine L.getQ ?_; (repeat (first | (with_reducible exact List.mem_cons_self) | apply List.mem_cons_of_mem)))); rintro e wh ⟨rfl, be⟩; replace L := L.step be; clear be))
  (try go_wp2_with fail)
  (try go_ret)
  exact ⟨rfl, L.below⟩

theorem mk_fits14 {m e : Int} (h : zl m ≤ 1900) (h1 : -60000 ≤ e) (h2 : e ≤ 4000) : mkR m e = 0 := by
  unfold mkR
  rw [if_neg (by omega)]
  by_cases h0 : m = 0
  · rw [if_pos h0]
  · rw [if_neg h0]
    have ht := tz_le8 m.natAbs (by omega)
    have e1 : zl m = len m.natAbs := rfl
    have hb : blen (oddM m).natAbs ≤ 65536 := by
      have := blen_le_len (oddM m).natAbs
      have h3 := zl_odd m
      have e2 : zl (oddM m) = len (oddM m).natAbs := rfl
      omega
    have ho : bitB (oddM m).natAbs 0 = true := by
      obtain ⟨k, hk⟩ := tz_form (x := m.natAbs) (by omega)
      have hd : m.natAbs / 2 ^ tz m.natAbs = 2 * k + 1 := by
        have := Nat.mul_div_cancel_left (2 * k + 1) (Nat.pow_pos (n := tz m.natAbs) (show 0 < 2 by omega))
        rwa [← hk] at this
      unfold bitB
      rw [oddM_abs, hd, Nat.pow_zero, Nat.div_one]
      exact decide_eq_true (by omega)
    have hf : fits8 (oddM m) (oddE m e) = true := by
      unfold fits8 oddE
      rw [decide_eq_true hb, decide_eq_true (by omega), decide_eq_true (by omega), ho]
      rfl
    rw [hf]
    rfl
theorem dv_shift {m e s : Int} (h : Dv m e) (hz : zl m ≤ 3) (he : -5000 ≤ e ∧ e ≤ 3000) (hs : -100 ≤ s ∧ s ≤ 100) : mkR m (e + s) = 0 ∧ mkM m (e + s) = m ∧ (m = 0 ∨ mkE m (e + s) = e + s) ∧ Dv (mkM m (e + s)) (mkE m (e + s)) ∧ dq (mkM m (e + s)) (mkE m (e + s)) = dq m e * dq 1 s := by
  have hr := mk_fits14 (m := m) (e := e + s) (by omega) (by omega) (by omega)
  have hk := mk_ok hr
  have hq := dq_mk hr
  have hq2 := dq_mul m e 1 s
  rw [Int.mul_one] at hq2
  by_cases h0 : m = 0
  · refine ⟨hr, ?_, Or.inl h0, hk, hq.trans hq2⟩
    unfold mkM
    rw [if_pos hr, h0, oddM_zero]
  · have hd : Dv m (e + s) := by
      rcases h with ⟨h1, _⟩ | ⟨_, h2⟩
      · exact absurd h1 h0
      · refine Or.inr ⟨h0, ?_⟩
        unfold fits8 at *
        rw [Bool.and_eq_true, Bool.and_eq_true, Bool.and_eq_true] at h2
        rw [h2.1, h2.2.2.2, decide_eq_true (show -65536 ≤ e + s by omega), decide_eq_true (show e + s ≤ 65536 by omega)]
        rfl
    obtain ⟨u1, u2⟩ := dv_uniq hk hd hq
    exact ⟨hr, u1, Or.inr u2, hk, hq.trans hq2⟩
/-- What is left behind j rounds. -/
structure ArgR (j : Nat) (m e n f : Int) : Prop where
  vm : Dv m e
  vn : Dv n f
  le : dq m e ≤ dq n f
  zm : zl m ≤ 3
  zn : zl n ≤ 3
  em : m = 0 ∨ (-40 - 20 * (j : Int) ≤ e ∧ e ≤ 136 - 20 * (j : Int))
  en : n = 0 ∨ (-40 - 20 * (j : Int) ≤ f ∧ f ≤ 136 - 20 * (j : Int))
theorem ArgR.small {j : Nat} {m e n f : Int} (h : ArgR j m e n f) (hj : j ≤ 40) : (-1000 ≤ e ∧ e ≤ 1000) ∧ (-1000 ≤ f ∧ f ≤ 1000) := by
  have h1 := h.em
  have h2 := h.en
  constructor
  · rcases h1 with h1 | h1
    · have := dv_zero h.vm h1
      omega
    · omega
  · rcases h2 with h2 | h2
    · have := dv_zero h.vn h2
      omega
    · omega
theorem ArgR.more {j : Nat} {m e n f far : Int} (h : ArgR j m e n f) (hf : 0 ≤ far) (ht : far < topZ m e ∨ far < topZ n f) : j ≤ 11 := by
  have z1 := blen_le_len m.natAbs
  have z2 := blen_le_len n.natAbs
  have e1 : zl m = len m.natAbs := rfl
  have e2 : zl n = len n.natAbs := rfl
  have h1 := h.zm
  have h2 := h.zn
  rcases ht with ht | ht <;> unfold topZ at ht <;> split at ht
  · omega
  · rcases h.em with h3 | h3
    · contradiction
    · omega
  · omega
  · rcases h.en with h3 | h3
    · contradiction
    · omega
theorem ArgR.step {j : Nat} {m e n f : Int} (h : ArgR j m e n f) (hj : j ≤ 40) : ArgR (j + 1) (mkM m (e + -20)) (mkE m (e + -20)) (mkM n (f + -20)) (mkE n (f + -20)) := by
  obtain ⟨s1, s2⟩ := h.small hj
  obtain ⟨_, a1, a2, a3, a4⟩ := dv_shift (s := -20) h.vm h.zm (by omega) (by omega)
  obtain ⟨_, b1, b2, b3, b4⟩ := dv_shift (s := -20) h.vn h.zn (by omega) (by omega)
  refine ⟨a3, b3, ?_, by rw [a1]; exact h.zm, by rw [b1]; exact h.zn, ?_, ?_⟩
  · rw [a4, b4]
    exact Rat.mul_le_mul_of_nonneg_right h.le (Rat.le_of_lt (dq_pos _))
  · rw [a1]
    rcases a2 with a2 | a2
    · exact Or.inl a2
    · rw [a2]
      rcases h.em with h1 | h1
      · exact Or.inl h1
      · exact Or.inr (by omega)
  · rw [b1]
    rcases b2 with b2 | b2
    · exact Or.inl b2
    · rw [b2]
      rcases h.en with h1 | h1
      · exact Or.inl h1
      · exact Or.inr (by omega)
theorem ArgR.first {m e n f : Int} (h1 : Dv m e) (h2 : Dv n f) (hl : dcm m e n f ≤ 0) (z1 : zl m ≤ 2 + 1) (z2 : zl n ≤ 2 + 1) (he : -((40 : Nat) : Int) ≤ e ∧ e ≤ ((40 : Nat) : Int) + 32 * (((2 : Nat) : Int) + 1)) (hf : -((40 : Nat) : Int) ≤ f ∧ f ≤ ((40 : Nat) : Int) + 32 * (((2 : Nat) : Int) + 1)) : ArgR 0 m e n f :=
  ⟨h1, h2, (dcm_le _ _ _ _).1 hl, z1, z2, Or.inr (by omega), Or.inr (by omega)⟩
section
variable {w0 w : World} {ns : List (Value × Nat)} {zs : List (Value × Int)} {qs : List (Value × Int × Nat)} {bs : List (Nat × TypeId × Array Value)} {g : Nat} {v0 v1 v2 v3 v4 v5 : Value}
end
/-- An argument of a law: valid, not long, and less than 2^B. -/
structure ArgX (B m e n f : Int) : Prop where
  vm : Dv m e
  vn : Dv n f
  le : dq m e ≤ dq n f
  zm : zl m ≤ 60
  zn : zl n ≤ 60
  em : -3000 ≤ e ∧ e ≤ 3000
  en : -3000 ≤ f ∧ f ≤ 3000
  lo : -dq 1 B ≤ dq m e
  hi : dq n f ≤ dq 1 B
theorem ArgX.of {j : Nat} {m e n f B : Int} (h : ArgR j m e n f) (hj : j ≤ 13) (t1 : topZ m e ≤ B) (t2 : topZ n f ≤ B) : ArgX B m e n f := by
  obtain ⟨s1, s2⟩ := h.small (by omega)
  obtain ⟨a1, _⟩ := top_bd m e
  obtain ⟨_, b2⟩ := top_bd n f
  exact ⟨h.vm, h.vn, h.le, Nat.le_trans h.zm (by omega), Nat.le_trans h.zn (by omega), by omega, by omega, Rat.le_trans (Rat.neg_le_neg (dq_anti t1)) a1, Rat.le_trans b2 (dq_anti t2)⟩
theorem ArgX.all {B m e n f : Int} (h : ArgX B m e n f) (hB : B ≤ 8) : smallB m e n f = true ∧ topZ m e ≤ 11 ∧ topZ n f ≤ 11 ∧ -256 ≤ dq m e ∧ dq n f ≤ 256 := by
  have v8 : dq 1 8 = 256 := by decide +kernel
  have v11 : dq 1 11 = 2048 := by decide +kernel
  have hb := dq_anti hB
  rw [v8] at hb
  have l1 : -256 ≤ dq m e := Rat.le_trans (Rat.neg_le_neg hb) h.lo
  have l2 : dq n f ≤ 256 := Rat.le_trans h.hi hb
  have l3 := h.le
  have tm : topZ m e ≤ 11 := by
    refine (top_iff (by omega)).2 ?_
    rw [v11]
    generalize dq m e = p at *
    generalize dq n f = q at *
    clear h hb
    constructor <;> grind
  have tn : topZ n f ≤ 11 := by
    refine (top_iff (by omega)).2 ?_
    rw [v11]
    generalize dq m e = p at *
    generalize dq n f = q at *
    clear h hb
    constructor <;> grind
  have em := h.em
  have en := h.en
  exact ⟨small14 h.zm h.zn (by omega) (by omega) ((dcm_le _ _ _ _).2 h.le) (by omega) (by omega), tm, tn, l1, l2⟩
theorem ArgX.to200 {B m e n f : Int} (h : ArgX B m e n f) (hB : B ≤ 7) : dq n f ≤ 200 := by
  have v7 : dq 1 7 = 128 := by decide +kernel
  have hb := dq_anti hB
  rw [v7] at hb
  refine Rat.le_trans h.hi (Rat.le_trans hb ?_)
  decide
/-- The program's sums, of the parts with their factors. -/
def pt1 (c : Int) (p : Nat → Int × Int) (v : Nat) : Option Int := match smP p 600 0 (2 ^ v) 0 with
  | none => none
  | some a => some (a * c)
def add2 : Option Int → Option Int → Option Int
  | some a, some b => some (a + b)
  | _, _ => none
def exT (v : Nat) : Option Int := pt1 1 (exP 1) v
def lnT (v : Nat) : Option Int := add2 (add2 (pt1 18 (tnP 26 (-1)) v) (pt1 (-2) (tnP 4801 (-1)) v)) (pt1 8 (tnP 8749 (-1)) v)
def cEx : Int := 8897998206892590118594630598385291834738537685687162240174487054240339731925796280128172478556695976546274616900025096778368205010686690869973160918873
def cLn : Int := 2268941470734616186861435708167256132234041358636494052997072697895108538484637608683501933121951412824912851708240389810467206005511724841255000151707
set_option maxHeartbeats 4000000 in
theorem cfrac_any (num den : Int) (w : World) (h1 : -4611686018427387904 ≤ num) (h2 : num ≤ 4611686018427387904) (hd : 0 < den) (hd2 : den ≤ 4611686018427387904) :
    Calls Tryz.prog 156 #[.int .i64 num, .int .i64 den] w (RetQ w (Rat.divInt num den)) := by
  have z1 := len_le2 (x := num.natAbs) (by omega)
  have z2 := len_le2 (x := den.natAbs) (by omega)
  have z3 := len_le2 (x := 1) (by omega)
  have g1 := fun W => pof_any num W (by omega) (by omega)
  have g2 := fun W => pof_any den W (by omega) (by omega)
  have g3 := fun v u W h k => pdiv_any num 1 den 1 v u W h k (show zl num ≤ 1000000 from Nat.le_trans z1 (by omega)) (by omega) (show zl den ≤ 1000000 from Nat.le_trans z2 (by omega)) (by omega) (by omega) (by omega)
  rw [show Rat.divInt (num * ((1 : Nat) : Int)) (((1 : Nat) : Int) * den) = Rat.divInt num den by rw [Int.natCast_one, Int.mul_one, Int.one_mul]] at g3
  unfold RetQ at g1 g2 ⊢
  simp only [Rat.num_intCast, Rat.den_intCast] at g1 g2
  generalize (Rat.divInt num den).num = a at *
  generalize (Rat.divInt num den).den = k at *
  have G1 := Lib.hid g1
  have G2 := Lib.hid g2
  have G3 := Lib.hid g3
  clear g1 g2 g3 z1 z2 z3
  go_enter Tryz.func156, Tryz.ntmps156
  have L := ((Lq.mk0 w).varQ (w.heap.size) (by simp) false none none 0 0 0 0)
  have c00 := L.b0.c30
  have f00 := L.b0.fr 0
  have c01 := L.b0.c31
  have f01 := L.b0.fr 1
  have c02 := L.b0.c32
  have f02 := L.b0.fr 2
  (try go_wp2_with fail)
  refine (G1.out _).mono ?_
  rintro e w1 ⟨vv, rfl, iq, be⟩
  clear c00 f00 c01 f01 c02 f02
  obtain ⟨A1, c1, B1, d1, rfl, _, ia, ib⟩ := iq.form
  replace L := ((L.step be).n ib).n ia
  clear be iq ia ib
  have c00 := L.b0.c30
  have f00 := L.b0.fr 0
  have c01 := L.b0.c31
  have f01 := L.b0.fr 1
  have c02 := L.b0.c32
  have f02 := L.b0.fr 2
  (try go_wp2_with fail)
  refine (G2.out _).mono ?_
  rintro e w2 ⟨vv, rfl, iq, be⟩
  clear c00 f00 c01 f01 c02 f02
  obtain ⟨A2, c2, B2, d2, rfl, _, ia, ib⟩ := iq.form
  replace L := ((L.step be).n ib).n ia
  clear be iq ia ib
  have c00 := L.b0.c30
  have f00 := L.b0.fr 0
  have c01 := L.b0.c31
  have f01 := L.b0.fr 1
  have c02 := L.b0.c32
  have f02 := L.b0.fr 2
  (try go_wp2_with fail)
  refine (G3.out _ _ _ ⟨.slice A1 (zl num) c1, .slice B1 (len 1) d1, rfl, L.getN (by simp), L.getN (by simp)⟩ ⟨.slice A2 (zl den) c2, .slice B2 (len 1) d2, rfl, L.getN (by simp), L.getN (by simp)⟩).mono ?_
  rintro e w3 ⟨vv, rfl, iq, be⟩
  clear c00 f00 c01 f01 c02 f02
  obtain ⟨A3, c3, B3, d3, rfl, _, ia, ib⟩ := iq.form
  replace L := ((L.step be).n ib).n ia
  clear be iq ia ib
  have hl9 := L.b0.lt
  have c00 := L.b0.c30
  have f00 := L.b0.fr 0
  have c01 := L.b0.c31
  have f01 := L.b0.fr 1
  have c02 := L.b0.c32
  have f02 := L.b0.fr 2
  have LN := L.varQ w3.heap.size rfl (ng a) A3 B3 (zl a) c3 (len k) d3
  have n0 := LN.b0.c30
  have n1 := LN.b0.c31
  have n2 := LN.b0.c32
  go_wp2_with fail
  clear c00 f00 c01 f01 c02 f02
  have LP0 := L.putQ (by omega) (by simp) (ng a) A3 B3 (zl a) c3 (len k) d3
  have LP := LP0.varQ _ rfl (ng a) A3 B3 (zl a) c3 (len k) d3
  have k0 := LP.tl.b0.c30
  have k1 := LP.tl.b0.c31
  have k2 := LP.tl.b0.c32
  unfold put3 at k0 k1 k2
  exact bodyPost_ret (v := .agg #[.bool (ng a), .slice A3 (zl a) c3, .slice B3 (len k) d3]) (by simp [results, Tryz.results156, go_sem, k0, k1, k2]) rfl ⟨_, rfl, ⟨_, _, rfl, LP.getN (by simp), LP.getN (by simp)⟩, LP.below⟩
set_option maxHeartbeats 4000000 in
theorem ctang_any (n sg : Int) (j : Nat) (w : World) (hn : 2 ≤ n) (hn2 : n ≤ 10000) (hs : sg = 1 ∨ sg = -1) (hj : j ≤ 1000) :
    Calls Tryz.prog 157 #[.int .i64 n, .int .i64 (j : Int), .int .i64 sg] w (RetQ w (Rat.divInt (tnP n sg j).1 (tnP n sg j).2)) := by
  have hnn : n * n ≤ 10000 * 10000 := Int.mul_le_mul hn2 hn2 (by omega) (by omega)
  have hnn2 : 2 * 2 ≤ n * n := Int.mul_le_mul hn hn (by omega) (by omega)
  obtain ⟨q, hq⟩ : ∃ q, n * n = q := ⟨_, rfl⟩
  obtain ⟨b, hb⟩ : ∃ b, q + sg = b := ⟨_, rfl⟩
  have w1 : IntKind.i64.wrap (n * n) = q := by rw [IntKind.wrap_i64]; omega
  have w2 : IntKind.i64.wrap (q + sg) = b := by rw [IntKind.wrap_i64]; omega
  have w3 : IntKind.i64.wrap (sg * 2) = sg * 2 := by rw [IntKind.wrap_i64]; omega
  obtain ⟨u, hu⟩ : ∃ u, sg * 2 * (j : Int) = u := ⟨_, rfl⟩
  have hub : -2000 ≤ u ∧ u ≤ 2000 := by rcases hs with rfl | rfl <;> omega
  have w4 : IntKind.i64.wrap (sg * 2 * (j : Int)) = u := by rw [IntKind.wrap_i64]; omega
  have w5 : IntKind.i64.wrap (2 * (j : Int)) = 2 * (j : Int) := by rw [IntKind.wrap_i64]; omega
  obtain ⟨m, hm⟩ : ∃ m : Int, 2 * (j : Int) + 1 = m := ⟨_, rfl⟩
  have w6 : IntKind.i64.wrap (2 * (j : Int) + 1) = m := by rw [IntKind.wrap_i64]; omega
  rw [hq] at hnn hnn2
  have hmb : m * b ≤ 2001 * 100000001 := Int.mul_le_mul (by omega) (by omega) (by omega) (by omega)
  have hmb2 : 1 * 3 ≤ m * b := Int.mul_le_mul (by omega) (by omega) (by omega) (by omega)
  obtain ⟨y, hy⟩ : ∃ y, m * b = y := ⟨_, rfl⟩
  rw [hy] at hmb hmb2
  have w7 : IntKind.i64.wrap (m * b) = y := by rw [IntKind.wrap_i64]; omega
  unfold tnP
  by_cases hj0 : j = 0
  · subst hj0
    rw [if_pos rfl]
    simp only
    rw [hq, hb]
    have g1 := fun W => cfrac_any n b W (by omega) (by omega) (by omega) (by omega)
    unfold RetQ at g1 ⊢
    generalize (Rat.divInt n b).num = a at *
    generalize (Rat.divInt n b).den = k at *
    have G1 := Lib.hid g1
    clear g1 hy hm hu hb hq hnn hnn2 hmb hmb2 w3 w4 w5 w6 w7 hub
    go_enter Tryz.func157, Tryz.ntmps157
    have L := ((Lq.mk0 w).varQ (w.heap.size) (by simp) false none none 0 0 0 0)
    have c00 := L.b0.c30
    have f00 := L.b0.fr 0
    have c01 := L.b0.c31
    have f01 := L.b0.fr 1
    have c02 := L.b0.c32
    have f02 := L.b0.fr 2
    (try go_wp2_with fail)
    refine (G1.out _).mono ?_
    rintro e w1 ⟨vv, rfl, iq, be⟩
    clear c00 f00 c01 f01 c02 f02
    obtain ⟨A9, c9, B9, d9, rfl, _, ia, ib⟩ := iq.form
    replace L := ((L.step be).n ib).n ia
    clear be iq ia ib
    have c00 := L.b0.c30
    have f00 := L.b0.fr 0
    have c01 := L.b0.c31
    have f01 := L.b0.fr 1
    have c02 := L.b0.c32
    have f02 := L.b0.fr 2
    (try go_wp2_with fail)
    have LP := L.putQ (by omega) (by first | (simp; done) | (simp; omega)) (ng (a)) A9 B9 (zl (a)) c9 (len (k)) d9
    have k0 := LP.b0.c30
    have k1 := LP.b0.c31
    have k2 := LP.b0.c32
    unfold put3 at k0 k1 k2
    exact bodyPost_ret (v := .agg #[.bool (ng (a)), .slice A9 (zl (a)) c9, .slice B9 (len (k)) d9]) (by simp [results, Tryz.results157, go_sem, k0, k1, k2]) rfl ⟨_, rfl, ⟨_, _, rfl, LP.getN (by simp), LP.getN (by simp)⟩, LP.below⟩
  · rw [if_neg hj0]
    simp only
    rw [hq, hb, hu, hm, hy]
    have q0 : ((j : Int) == 0) = false := by rw [beq_eq_false_iff_ne]; omega
    have g1 := fun W => cfrac_any u y W (by omega) (by omega) (by omega) (by omega)
    unfold RetQ at g1 ⊢
    generalize (Rat.divInt u y).num = a at *
    generalize (Rat.divInt u y).den = k at *
    have G1 := Lib.hid g1
    clear g1 hy hm hu hb hq hnn hnn2 hmb hmb2 hub
    go_enter Tryz.func157, Tryz.ntmps157
    have L := ((Lq.mk0 w).varQ (w.heap.size) (by simp) false none none 0 0 0 0)
    have c00 := L.b0.c30
    have f00 := L.b0.fr 0
    have c01 := L.b0.c31
    have f01 := L.b0.fr 1
    have c02 := L.b0.c32
    have f02 := L.b0.fr 2
    (try go_wp2_with fail)
    refine (G1.out _).mono ?_
    rintro e w1 ⟨vv, rfl, iq, be⟩
    clear c00 f00 c01 f01 c02 f02
    obtain ⟨A9, c9, B9, d9, rfl, _, ia, ib⟩ := iq.form
    replace L := ((L.step be).n ib).n ia
    clear be iq ia ib
    have c00 := L.b0.c30
    have f00 := L.b0.fr 0
    have c01 := L.b0.c31
    have f01 := L.b0.fr 1
    have c02 := L.b0.c32
    have f02 := L.b0.fr 2
    (try go_wp2_with fail)
    have LP := L.putQ (by omega) (by first | (simp; done) | (simp; omega)) (ng (a)) A9 B9 (zl (a)) c9 (len (k)) d9
    have k0 := LP.b0.c30
    have k1 := LP.b0.c31
    have k2 := LP.b0.c32
    unfold put3 at k0 k1 k2
    exact bodyPost_ret (v := .agg #[.bool (ng (a)), .slice A9 (zl (a)) c9, .slice B9 (len (k)) d9]) (by simp [results, Tryz.results157, go_sem, k0, k1, k2]) rfl ⟨_, rfl, ⟨_, _, rfl, LP.getN (by simp), LP.getN (by simp)⟩, LP.below⟩
set_option maxHeartbeats 4000000 in
theorem cexp_any (j : Nat) (w : World) (hj : j ≤ 1000) :
    Calls Tryz.prog 99 #[.int .i64 1, .int .i64 (j : Int)] w (RetQ w (Rat.divInt (exP 1 j).1 (exP 1 j).2)) := by
  unfold exP
  by_cases hj0 : j = 0
  · subst hj0
    rw [if_pos rfl]
    simp only
    have g1 := fun W => pof_any 1 W (by omega) (by omega)
    rw [show ((1 : Int) : Rat) = Rat.divInt 1 1 from int_div 1] at g1
    unfold RetQ at g1 ⊢
    generalize (Rat.divInt 1 1).num = a at *
    generalize (Rat.divInt 1 1).den = k at *
    have G1 := Lib.hid g1
    clear g1
    go_enter Tryz.func99, Tryz.ntmps99
    have L := ((Lq.mk0 w).varQ (w.heap.size) (by simp) false none none 0 0 0 0)
    have c00 := L.b0.c30
    have f00 := L.b0.fr 0
    have c01 := L.b0.c31
    have f01 := L.b0.fr 1
    have c02 := L.b0.c32
    have f02 := L.b0.fr 2
    (try go_wp2_with fail)
    refine (G1.out _).mono ?_
    rintro e w1 ⟨vv, rfl, iq, be⟩
    clear c00 f00 c01 f01 c02 f02
    obtain ⟨A9, c9, B9, d9, rfl, _, ia, ib⟩ := iq.form
    replace L := ((L.step be).n ib).n ia
    clear be iq ia ib
    have c00 := L.b0.c30
    have f00 := L.b0.fr 0
    have c01 := L.b0.c31
    have f01 := L.b0.fr 1
    have c02 := L.b0.c32
    have f02 := L.b0.fr 2
    (try go_wp2_with fail)
    have LP := L.putQ (by omega) (by first | (simp; done) | (simp; omega)) (ng (a)) A9 B9 (zl (a)) c9 (len (k)) d9
    have k0 := LP.b0.c30
    have k1 := LP.b0.c31
    have k2 := LP.b0.c32
    unfold put3 at k0 k1 k2
    exact bodyPost_ret (v := .agg #[.bool (ng (a)), .slice A9 (zl (a)) c9, .slice B9 (len (k)) d9]) (by simp [results, Tryz.results99, go_sem, k0, k1, k2]) rfl ⟨_, rfl, ⟨_, _, rfl, LP.getN (by simp), LP.getN (by simp)⟩, LP.below⟩
  · rw [if_neg hj0]
    simp only
    have q0 : ((j : Int) == 0) = false := by rw [beq_eq_false_iff_ne]; omega
    have w1 : IntKind.i64.wrap ((j : Int) * 1) = (j : Int) := by rw [IntKind.wrap_i64]; omega
    have w2 : IntKind.i64.wrap (j : Int) = (j : Int) := by rw [IntKind.wrap_i64]; omega
    have g1 := fun W => cfrac_any 1 (j : Int) W (by omega) (by omega) (by omega) (by omega)
    rw [Int.mul_one]
    unfold RetQ at g1 ⊢
    generalize (Rat.divInt 1 (j : Int)).num = a at *
    generalize (Rat.divInt 1 (j : Int)).den = k at *
    have G1 := Lib.hid g1
    clear g1
    go_enter Tryz.func99, Tryz.ntmps99
    have L := ((Lq.mk0 w).varQ (w.heap.size) (by simp) false none none 0 0 0 0)
    have c00 := L.b0.c30
    have f00 := L.b0.fr 0
    have c01 := L.b0.c31
    have f01 := L.b0.fr 1
    have c02 := L.b0.c32
    have f02 := L.b0.fr 2
    (try go_wp2_with fail)
    refine (G1.out _).mono ?_
    rintro e w1 ⟨vv, rfl, iq, be⟩
    clear c00 f00 c01 f01 c02 f02
    obtain ⟨A9, c9, B9, d9, rfl, _, ia, ib⟩ := iq.form
    replace L := ((L.step be).n ib).n ia
    clear be iq ia ib
    have c00 := L.b0.c30
    have f00 := L.b0.fr 0
    have c01 := L.b0.c31
    have f01 := L.b0.fr 1
    have c02 := L.b0.c32
    have f02 := L.b0.fr 2
    (try go_wp2_with fail)
    have LP := L.putQ (by omega) (by first | (simp; done) | (simp; omega)) (ng (a)) A9 B9 (zl (a)) c9 (len (k)) d9
    have k0 := LP.b0.c30
    have k1 := LP.b0.c31
    have k2 := LP.b0.c32
    unfold put3 at k0 k1 k2
    exact bodyPost_ret (v := .agg #[.bool (ng (a)), .slice A9 (zl (a)) c9, .slice B9 (len (k)) d9]) (by simp [results, Tryz.results99, go_sem, k0, k1, k2]) rfl ⟨_, rfl, ⟨_, _, rfl, LP.getN (by simp), LP.getN (by simp)⟩, LP.below⟩
set_option maxHeartbeats 4000000 in
theorem carea_any (n : Int) (j : Nat) (w : World) (hn : 2 ≤ n) (hn2 : n ≤ 10000) (hj : j ≤ 1000) :
    Calls Tryz.prog 100 #[.int .i64 n, .int .i64 (j : Int)] w (RetQ w (Rat.divInt (tnP n (-1) j).1 (tnP n (-1) j).2)) := by
  have g1 := fun W => ctang_any n (-1) j W hn hn2 (by omega) hj
  unfold RetQ at g1 ⊢
  generalize (Rat.divInt (tnP n (-1) j).1 (tnP n (-1) j).2).num = a at *
  generalize (Rat.divInt (tnP n (-1) j).1 (tnP n (-1) j).2).den = k at *
  have G1 := Lib.hid g1
  clear g1
  go_enter Tryz.func100, Tryz.ntmps100
  have L := ((Lq.mk0 w).varQ (w.heap.size) (by simp) false none none 0 0 0 0)
  have c00 := L.b0.c30
  have f00 := L.b0.fr 0
  have c01 := L.b0.c31
  have f01 := L.b0.fr 1
  have c02 := L.b0.c32
  have f02 := L.b0.fr 2
  (try go_wp2_with fail)
  refine (G1.out _).mono ?_
  rintro e w1 ⟨vv, rfl, iq, be⟩
  clear c00 f00 c01 f01 c02 f02
  obtain ⟨A9, c9, B9, d9, rfl, _, ia, ib⟩ := iq.form
  replace L := ((L.step be).n ib).n ia
  clear be iq ia ib
  have c00 := L.b0.c30
  have f00 := L.b0.fr 0
  have c01 := L.b0.c31
  have f01 := L.b0.fr 1
  have c02 := L.b0.c32
  have f02 := L.b0.fr 2
  (try go_wp2_with fail)
  have LP := L.putQ (by omega) (by first | (simp; done) | (simp; omega)) (ng (a)) A9 B9 (zl (a)) c9 (len (k)) d9
  have k0 := LP.b0.c30
  have k1 := LP.b0.c31
  have k2 := LP.b0.c32
  unfold put3 at k0 k1 k2
  exact bodyPost_ret (v := .agg #[.bool (ng (a)), .slice A9 (zl (a)) c9, .slice B9 (len (k)) d9]) (by simp [results, Tryz.results100, go_sem, k0, k1, k2]) rfl ⟨_, rfl, ⟨_, _, rfl, LP.getN (by simp), LP.getN (by simp)⟩, LP.below⟩
def okW (p : Int) : Bool := decide (0 ≤ p) && decide (p ≤ 4224)
set_option maxHeartbeats 1000000 in
theorem cperm_any (p : Int) (w : World) :
    Calls Tryz.prog 153 #[.int .i64 p] w (fun e w' => e = .returned (.bool (okW p)) ∧ w = w') := by
  unfold okW
  by_cases q1 : 0 ≤ p
  · have b1 : decide (0 ≤ p) = true := decide_eq_true q1
    rw [b1, Bool.true_and]
    go_enter Tryz.func153, Tryz.ntmps153
    go_wp2_with fail
    go_ret
    exact ⟨rfl, rfl⟩
  · have b1 : decide (0 ≤ p) = false := decide_eq_false q1
    rw [b1, Bool.false_and]
    go_enter Tryz.func153, Tryz.ntmps153
    go_wp2_with fail
    go_ret
    exact ⟨rfl, rfl⟩

theorem plainP (a : Int) (F : Nat) (n : Int) : Plain #[.int .i64 a, .func (.func F) #[] #[], .int .i64 n] := fun j x => by
  match j with
  | 0 => simp
  | 1 => simp
  | 2 => simp
  | j + 3 => simp
theorem Lq.varP {w0 w : World} {ns : List (Value × Nat)} {zs : List (Value × Int)} {qs : List (Value × Int × Nat)} {bs : List (Nat × TypeId × Array Value)} (h : Lq w0 w ns zs qs bs) (g : Nat) (hg : g = w.heap.size) (a : Int) (F : Nat) (n : Int) : Lq w0 (w.alloc (.cells #[.int .i64 a, .func (.func F) #[] #[], .int .i64 n] 115)) ns zs qs ((g, 115, #[.int .i64 a, .func (.func F) #[] #[], .int .i64 n]) :: bs) := h.var g hg _ _ (plainP _ _ _)
theorem Lq.subs {w0 w : World} {ns : List (Value × Nat)} {zs : List (Value × Int)} {qs : List (Value × Int × Nat)} {bs : List (Nat × TypeId × Array Value)} (h : Lq w0 w ns zs qs bs) {ns' : List (Value × Nat)} {bs' : List (Nat × TypeId × Array Value)} (h1 : ∀ p ∈ ns', p ∈ ns) (h2 : ∀ b ∈ bs', b ∈ bs) : Lq w0 w ns' [] [] bs' :=
  ⟨h.below, fun x hx => h.ns x (h1 x hx), fun _ x => (by cases x), fun _ x => (by cases x), fun x hx => h.bs x (h2 x hx)⟩

set_option maxHeartbeats 16000000 in
theorem csum_any (F : Nat) (hen : ∀ args w, (callFunc F args).run Tryz.prog w = .ok (.enter F args) w) (p : Nat → Int × Int) (n fac S : Int) (v : Nat) (w : World) (hg : GdP p) (hS : smP p 600 0 (2 ^ v) 0 = some S) (hfac : AbP fac 10) (hv : v ≤ 3900) (hT : Tab w) (hf : ∀ (j : Nat) W, j ≤ 1000 → Calls Tryz.prog F #[.int .i64 n, .int .i64 (j : Int)] W (RetQ W (Rat.divInt (p j).1 (p j).2))) :
    Calls Tryz.prog 154 #[.agg #[.int .i64 fac, .func (.func F) #[] #[], .int .i64 n], .int .i64 (v : Int)] w (RetD8 w (mkM (S * fac) 0) (mkE (S * fac) 0)) := by
  have hfb : -1024 ≤ fac ∧ fac ≤ 1024 := by
    have e10 : (2 : Nat) ^ 10 = 1024 := by decide
    unfold AbP at hfac
    rw [e10] at hfac
    omega
  have hSb := smP_abs hg 600 0 _ _ _ (sp_first hS)
  have HR0 := sp_first hS
  have HT := Lib.hid (fun W (hW : Below w.heap.size w W) => hT.mono hW)
  have g1 := fun W (hW : Below w.heap.size w W) => dof_any 1 W (by omega) (by omega) (hT.mono hW)
  obtain ⟨u1, u2, u3⟩ := nf_up (k := v) (by omega)
  obtain ⟨_, y2, y3, y4, _, _⟩ := nf (t := 1) (v := 0) (by unfold AbP; decide) (by omega)
  have g2 := fun x W h (hW : Below w.heap.size w W) => dshift_any (mkM 1 0) (mkE 1 0) (v : Int) x W h (by omega) (by omega) (by omega) (hT.mono hW)
  rw [u1, u2, u3] at g2
  have g3 := fun W (hW : Below w.heap.size w W) => dof_any fac W (by omega) (by omega) (hT.mono hW)
  obtain ⟨f1, f2, f3, f4, _, _⟩ := nf hfac (by omega)
  obtain ⟨s1, s2, s3, s4, _, _⟩ := nf hSb (by omega)
  obtain ⟨m1, m2, m3⟩ := nf_mul hSb hfac (by omega)
  have g4 := fun x y W h k (hW : Below w.heap.size w W) => dmul_any (mkM S 0) (mkE S 0) (mkM fac 0) (mkE fac 0) x y W h k (by omega) (by omega) (by omega) (by omega) (hT.mono hW)
  rw [m1, m2, m3] at g4
  clear hfb hfac u1 u2 u3 y2 y3 y4 f1 f2 f3 f4 s1 s2 s3 s4 m1 m2 m3 hS hSb
  generalize mkM (S * fac) 0 = Mr at *
  generalize mkE (S * fac) 0 = Er at *
  generalize mkM fac 0 = Mf at *
  generalize mkE fac 0 = Ef at *
  generalize mkM 1 0 = M1 at *
  generalize mkE 1 0 = E1 at *
  generalize hP : (2 : Int) ^ v = P at *
  obtain ⟨M, hM⟩ : ∃ z, mkM P 0 = z := ⟨_, rfl⟩
  obtain ⟨E, hE⟩ : ∃ z, mkE P 0 = z := ⟨_, rfl⟩
  rw [hM, hE] at g2
  have HR := Lib.hid (And.intro HR0 (And.intro (And.intro hM hE) nf00))
  have G1 := Lib.hid g1
  have G2 := Lib.hid g2
  have G3 := Lib.hid g3
  have G4 := Lib.hid g4
  have HF := Lib.hid hf
  have HG := Lib.hid hg
  have HV := Lib.hid hv
  clear g1 g2 g3 g4 hf hg hv HR0 hM hE hP hT
  go_enter Tryz.func154, Tryz.ntmps154
  have L := ((((Lq.mk0 w).varP (w.heap.size) (by simp) fac F n).varD (w.heap.size + 1) (by simp) false none 0 0 0).varD (w.heap.size + 2) (by simp) false none 0 0 0)
  have c00 := L.b0.c30
  have f00 := L.b0.fr 0
  have c01 := L.b0.c31
  have f01 := L.b0.fr 1
  have c02 := L.b0.c32
  have f02 := L.b0.fr 2
  (try go_wp2_with fail)
  refine (G1.out _ L.below).mono ?_
  rintro e w1 ⟨v1, rfl, id, be⟩
  clear c00 f00 c01 f01 c02 f02
  replace L := L.step be
  clear be
  (try go_wp2_with fail)
  refine (G2.out _ _ id L.below).mono ?_
  rintro e w2 ⟨v2, rfl, iz, be⟩
  obtain ⟨A1, c1, rfl, _, in9⟩ := iz.form
  replace L := (L.step be).n in9
  clear be iz in9 id
  have hl9 := L.b0.lt
  replace L := L.varD w2.heap.size rfl (ng M) A1 (zl M) c1 E
  have c00 := L.b0.c30
  have c01 := L.b0.c31
  have c02 := L.b0.c32
  go_wp2_with fail
  clear c00 c01 c02
  obtain ⟨gt, hgt⟩ : ∃ g9, w2.heap.size = g9 := ⟨_, rfl⟩
  rw [hgt] at L hl9 ⊢
  clear hgt
  clear G1 G2
  go_loopw [8] (fun i wr => ∃ (f k : Nat) (t s M E N K : Int) (A1 A2 : Option Addr) (c1 c2 : Nat), i = .int .i64 (k : Int) ∧ Lq w wr [(.slice A1 (zl M) c1, M.natAbs), (.slice A2 (zl N) c2, N.natAbs)] [] [] [(gt, 26, #[.bool (ng M), .slice A1 (zl M) c1, .int .i64 E]), (w.heap.size + 2, 26, #[.bool (ng N), .slice A2 (zl N) c2, .int .i64 K]), (w.heap.size, 115, #[.int .i64 fac, .func (.func F) #[] #[], .int .i64 n]), (w.heap.size + 1, 26, #[.bool false, .slice none 0 0, .int .i64 0])] ∧ Hid (SpI p v f k t s S ∧ (mkM t 0 = M ∧ mkE t 0 = E) ∧ mkM s 0 = N ∧ mkE s 0 = K)) (fun i _ => 700 - (intOf i).toNat)
  case atStart =>
    have zz : zl 0 = 0 := len_zero
    have LN := L.n (v := .slice none 0 0) (x := 0) (IsN.zero _)
    refine ⟨600, 0, P, 0, M, E, 0, 0, A1, none, c1, 0, by go_num, ?_, HR⟩
    rw [zz]
    exact LN.subs (by simp) (by simp [ng])
  case round =>
    clear L HR
    obtain ⟨f, k, t, s, M, E, N, K, A1, A2, c1, c2, rfl, L, HR⟩ := hrel
    obtain ⟨hI, ⟨hM, hE⟩, hN, hK⟩ := HR.out
    have hv := HV.out
    obtain ⟨ht, hs, hfk, _⟩ := id hI
    obtain ⟨_, z2, z3, z4, _, _⟩ := nf ht (by omega)
    obtain ⟨q1, q2⟩ := nf_rat ht (by omega)
    obtain ⟨g, rfl, hk, ht2, n1, n2⟩ := hI.step HG.out
    obtain ⟨r1, r2, r3, r4, _, _⟩ := nf ht2 (by omega)
    have r5 := nf_sign ht2 (by omega)
    obtain ⟨p1, p2, p3⟩ := HG.out k (by omega)
    have zt := ht.zl
    have hb9 := L.tl.b0.lt
    have hc9 := L.b0.lt
    have o1 := fun x W h => drat_any (mkM t 0) (mkE t 0) x W h (by omega) (by omega)
    rw [q1, q2] at o1
    have o2 := fun W => HF.out k W (by omega)
    unfold RetQ at o2
    have cs := cut_st p k t p2
    obtain ⟨d, hd⟩ : ∃ d : Nat, (p k).2 = (d : Int) := ⟨(p k).2.toNat, by omega⟩
    have ds := divInt_small (p k).1 d 2 (show zl (p k).1 ≤ 2 from len_le2 (by omega)) (len_le2 (by omega)) (by omega)
    rw [← hd] at ds
    have dp := den_pos' (Rat.divInt (p k).1 (p k).2)
    generalize (Rat.divInt (p k).1 (p k).2).num = a at *
    generalize (Rat.divInt (p k).1 (p k).2).den = b at *
    have o3 := fun x y W h j => pmul_any t 1 a b x y W h j (by omega) (show len 1 ≤ 1000000 from Nat.le_trans (len_le1 (by omega)) (by omega)) (by omega) (by omega) (by omega) dp
    unfold RetQ at o3
    have sz := divInt_small (t * a) (1 * b) 600 (by have := zl_mul t a; omega) (by rw [Nat.one_mul]; omega) (by omega)
    rw [Int.natCast_mul] at sz
    have xp := den_pos' (Rat.divInt (t * a) (((1 : Nat) : Int) * (b : Int)))
    have xe := rat_self (Rat.divInt (t * a) (((1 : Nat) : Int) * (b : Int)))
    generalize Rat.divInt (t * a) (((1 : Nat) : Int) * (b : Int)) = X at *
    have o4 := fun x W h (hW : Below w.heap.size w W) => gfloorR_any X.num X.den 0 x W h (by omega) (by omega) xp (by omega) (by omega) (HT.out W hW)
    obtain ⟨e1, e2, e3⟩ := g_yes (p := 0) (by decide) (cutQ (Rat.divInt X.num (X.den : Int)) 0)
    rw [e1, e2, e3, xe, cs, Int.neg_zero, r1] at o4
    have o5 := fun x W h => dsign_any (mkM (stP p k t) 0) (mkE (stP p k t) 0) x W h (by omega)
    have hsu := ht2.up (show v ≤ v + k by omega)
    obtain ⟨a1, a2, a3⟩ := nf_add hs hsu (by omega)
    obtain ⟨_, b2, b3, b4, _, _⟩ := nf hs (by omega)
    have o6 := fun x y W h j (hW : Below w.heap.size w W) => dadd_any (mkM s 0) (mkE s 0) (mkM (stP p k t) 0) (mkE (stP p k t) 0) x y W h j (by omega) (by omega) (by omega) (by omega) (HT.out W hW)
    rw [a1, a2, a3] at o6
    have w3 : IntKind.i64.wrap ((k : Int) + 1) = (k : Int) + 1 := by rw [IntKind.wrap_i64]; omega
    clear q1 q2 z2 z3 z4 p1 p2 p3 hd ds cs sz xp xe e1 e2 e3 r1 r2 r3 r4 a1 a2 a3 b2 b3 b4 hsu zt dp hI hv ht hs ht2
    obtain ⟨t2, ht2⟩ : ∃ z, stP p k t = z := ⟨_, rfl⟩
    rw [ht2] at n1 n2 r5 o4 o5 o6
    obtain ⟨s2, hs2⟩ : ∃ z, s + t2 = z := ⟨_, rfl⟩
    rw [hs2] at n2 o6
    rw [hM, hE] at o1
    rw [hN, hK] at o6
    obtain ⟨M2, hM2⟩ : ∃ z, mkM t2 0 = z := ⟨_, rfl⟩
    obtain ⟨E2, hE2⟩ : ∃ z, mkE t2 0 = z := ⟨_, rfl⟩
    obtain ⟨N2, hN2⟩ : ∃ z, mkM s2 0 = z := ⟨_, rfl⟩
    obtain ⟨K2, hK2⟩ : ∃ z, mkE s2 0 = z := ⟨_, rfl⟩
    rw [hM2, hE2] at o4 o5 o6
    rw [hM2] at r5
    rw [hN2, hK2] at o6
    generalize X.num = xa at *
    generalize X.den = xd at *
    obtain ⟨sg9, hsg9⟩ : ∃ z, cmpI M2 0 = z := ⟨_, rfl⟩
    rw [hsg9] at o5 r5
    have O1 := Lib.hid o1
    have O2 := Lib.hid o2
    have O3 := Lib.hid o3
    have O4 := Lib.hid o4
    have O5 := Lib.hid o5
    have O6 := Lib.hid o6
    have HQ := Lib.hid (And.intro (And.intro hN hK) (And.intro n1 n2))
    have HM2 := Lib.hid (And.intro (And.intro hM2 hE2) (And.intro hN2 hK2))
    clear o1 o2 o3 o4 o5 o6 hsg9 n1 n2 hM hE hN hK hM2 hE2 hN2 hK2 hs2 ht2 HR hfk X
    have nb : w.heap.size + 2 ≠ gt := by omega
    (try go_wp2_with fail)
    replace L := L.drew
    have cel00 := L.b0.c30
    have f00 := L.b0.fr 0
    have cel01 := L.b0.c31
    have f01 := L.b0.fr 1
    have cel02 := L.b0.c32
    have f02 := L.b0.fr 2
    have cel20 := L.tl.tl.b0.c30
    have cel21 := L.tl.tl.b0.c31
    have cel22 := L.tl.tl.b0.c32
    go_cut [30] from 18 to 30 (fun s9 wx => ∃ (A3 : Option Addr) (c3 : Nat), Lq w wx [(.slice A3 (zl M2) c3, M2.natAbs), (.slice A2 (zl N) c2, N.natAbs)] [] [] [(gt, 26, #[.bool (ng M2), .slice A3 (zl M2) c3, .int .i64 E2]), (w.heap.size + 2, 26, #[.bool (ng N), .slice A2 (zl N) c2, .int .i64 K]), (w.heap.size, 115, #[.int .i64 fac, .func (.func F) #[] #[], .int .i64 n]), (w.heap.size + 1, 26, #[.bool false, .slice none 0 0, .int .i64 0])])
    case first =>
      go_region_with (first | (go_at_call 193; (with_reducible refine (O1.out _ _ ?_ ).mono ?_); (· (refine isD_n (L.getN ?_); (repeat (first | (with_reducible exact List.mem_cons_self) | apply List.mem_cons_of_mem)))); rintro e9 wh ⟨vh, rfl, iq, be⟩; obtain ⟨Af, cf, Bf, df, rfl, _, _, _⟩ := iq.form; replace L := (L.step be).q iq; clear be iq; (try (have xx00 := L.b0.c30; have yy00 := L.b0.fr 0; have xx01 := L.b0.c31; have yy01 := L.b0.fr 1; have xx02 := L.b0.c32; have yy02 := L.b0.fr 2)); (try (have xx20 := L.tl.tl.b0.c30; have xx21 := L.tl.tl.b0.c31; have xx22 := L.tl.tl.b0.c32))) | ((with_reducible refine (O2.out _ ).mono ?_); rintro e9 wh ⟨vh, rfl, iq, be⟩; obtain ⟨Af, cf, Bf, df, rfl, _, _, _⟩ := iq.form; replace L := (L.step be).q iq; clear be iq; (try (have xx00 := L.b0.c30; have yy00 := L.b0.fr 0; have xx01 := L.b0.c31; have yy01 := L.b0.fr 1; have xx02 := L.b0.c32; have yy02 := L.b0.fr 2)); (try (have xx20 := L.tl.tl.b0.c30; have xx21 := L.tl.tl.b0.c31; have xx22 := L.tl.tl.b0.c32))) | (go_at_call 192; (with_reducible refine (O3.out _ _ _ ?_ ?_ ).mono ?_); (· (refine L.getQ ?_; (repeat (first | (with_reducible exact List.mem_cons_self) | apply List.mem_cons_of_mem)))); (· (refine L.getQ ?_; (repeat (first | (with_reducible exact List.mem_cons_self) | apply List.mem_cons_of_mem)))); rintro e9 wh ⟨vh, rfl, iq, be⟩; obtain ⟨Af, cf, Bf, df, rfl, _, _, _⟩ := iq.form; replace L := (L.step be).q iq; clear be iq; (try (have xx00 := L.b0.c30; have yy00 := L.b0.fr 0; have xx01 := L.b0.c31; have yy01 := L.b0.fr 1; have xx02 := L.b0.c32; have yy02 := L.b0.fr 2)); (try (have xx20 := L.tl.tl.b0.c30; have xx21 := L.tl.tl.b0.c31; have xx22 := L.tl.tl.b0.c32))) | (go_at_call 147; (with_reducible refine (O4.out _ _ ?_ ?_ ).mono ?_); (· (refine L.getQ ?_; (repeat (first | (with_reducible exact List.mem_cons_self) | apply List.mem_cons_of_mem)))); (· exact L.below); rintro e9 wh ⟨vh, rfl, id, be⟩; obtain ⟨A3, c3, rfl, _, in9⟩ := id.form; replace L := (L.step be).n in9; clear be id in9; (try (have xx00 := L.b0.c30; have yy00 := L.b0.fr 0; have xx01 := L.b0.c31; have yy01 := L.b0.fr 1; have xx02 := L.b0.c32; have yy02 := L.b0.fr 2)); (try (have xx20 := L.tl.tl.b0.c30; have xx21 := L.tl.tl.b0.c31; have xx22 := L.tl.tl.b0.c32))))
      all_goals
        have P := L.putD (by omega) (by first | (simp; done) | (simp; omega)) (ng M2) A3 (zl M2) c3 E2
        unfold put3 at P
        go_wp2_with fail
        go_meet
        exact ⟨A3, c3, P.subs (by simp) (by simp)⟩
    case rest =>
      clear L
      obtain ⟨A3, c3, L⟩ := hcut
      have hgt := L.b0.lt
      have cel00 := L.b0.c30
      have f00 := L.b0.fr 0
      have cel01 := L.b0.c31
      have f01 := L.b0.fr 1
      have cel02 := L.b0.c32
      have f02 := L.b0.fr 2
      (try go_wp2_with fail)
      refine (O5.out _ _ (isD_n (m := M2) (e := E2) (s := .slice A3 (zl M2) c3) (L.getN (by simp)))).mono ?_
      rintro e w12 ⟨rfl, be⟩
      clear cel00 f00 cel01 f01 cel02 f02
      replace L := L.step be
      clear be
      by_cases h0 : t2 = 0
      · have r6 : (sg9 == 0) = true := r5.trans (decide_eq_true h0)
        obtain rfl := HQ.out.2.1 h0
        have G4' := G4.out
        rw [HQ.out.1.1, HQ.out.1.2] at G4'
        have G5 := Lib.hid G4'
        clear G4' G4 r5 HQ HM2 O1 O2 O3 O4 O5 O6
        replace L := L.swap
        have cel00 := L.b0.c30
        have f00 := L.b0.fr 0
        have cel01 := L.b0.c31
        have f01 := L.b0.fr 1
        have cel02 := L.b0.c32
        have f02 := L.b0.fr 2
        have cel20 := L.tl.tl.b0.c30
        have cel21 := L.tl.tl.b0.c31
        have cel22 := L.tl.tl.b0.c32
        (try go_wp2_with fail)
        replace L := L.drew
        clear cel00 f00 cel01 f01 cel02 f02 cel20 cel21 cel22
        have cel00 := L.b0.c30
        have f00 := L.b0.fr 0
        have cel01 := L.b0.c31
        have f01 := L.b0.fr 1
        have cel02 := L.b0.c32
        have f02 := L.b0.fr 2
        have cel20 := L.tl.tl.b0.c30
        have cel21 := L.tl.tl.b0.c31
        have cel22 := L.tl.tl.b0.c32
        go_region_with (first | (go_at_call 57; (with_reducible refine (G3.out _ ?_ ).mono ?_); (· exact L.below); rintro e9 wh ⟨vh, rfl, id, be⟩; obtain ⟨A4, c4, rfl, _, in9⟩ := id.form; replace L := (L.step be).n in9; clear be id in9; (try (have xx00 := L.b0.c30; have yy00 := L.b0.fr 0; have xx01 := L.b0.c31; have yy01 := L.b0.fr 1; have xx02 := L.b0.c32; have yy02 := L.b0.fr 2)); (try (have xx20 := L.tl.tl.b0.c30; have xx21 := L.tl.tl.b0.c31; have xx22 := L.tl.tl.b0.c32))) | (go_at_call 81; (with_reducible refine (G5.out _ _ _ ?_ ?_ ?_ ).mono ?_); (· (refine isD_n (L.getN ?_); (repeat (first | (with_reducible exact List.mem_cons_self) | apply List.mem_cons_of_mem)))); (· (refine isD_n (L.getN ?_); (repeat (first | (with_reducible exact List.mem_cons_self) | apply List.mem_cons_of_mem)))); (· exact L.below); rintro e9 wh ⟨vh, rfl, id, be⟩; obtain ⟨A5, c5, rfl, _, in9⟩ := id.form; replace L := (L.step be).n in9; clear be id in9; (try (have xx00 := L.b0.c30; have yy00 := L.b0.fr 0; have xx01 := L.b0.c31; have yy01 := L.b0.fr 1; have xx02 := L.b0.c32; have yy02 := L.b0.fr 2)); (try (have xx20 := L.tl.tl.b0.c30; have xx21 := L.tl.tl.b0.c31; have xx22 := L.tl.tl.b0.c32))))
        all_goals
          clear cel00 f00 cel01 f01 cel02 f02 cel20 cel21 cel22
          have P := L.putD (by omega) (by first | (simp; done) | (simp; omega)) (ng Mr) A5 (zl Mr) c5 Er
          have p0 := P.b0.c30
          have p1 := P.b0.c31
          have p2 := P.b0.c32
          have q0 := P.tl.tl.tl.b0.c30
          have q1 := P.tl.tl.tl.b0.c31
          have q2 := P.tl.tl.tl.b0.c32
          have q3 := P.tl.tl.tl.b0.fr 0
          have q4 := P.tl.tl.tl.b0.fr 1
          have q5 := P.tl.tl.tl.b0.fr 2
          unfold put3 at p0 p1 p2 q0 q1 q2 q3 q4 q5 P
          go_wp2_with fail
          replace L := P.pull2.swap.pull2.pull2
          clear P p0 p1 p2 q0 q1 q2 q3 q4 q5
          have L4 : Lq w _ _ _ _ _ := L.subs (ns' := [(.slice A5 (zl Mr) c5, Mr.natAbs)]) (bs' := [(w.heap.size + 1, 26, #[.bool false, .slice none 0 0, .int .i64 0])]) (by simp) (by simp)
          clear L
          have L := L4
          have LP := L.putD (by omega) (by first | (simp; done) | (simp; omega)) (ng Mr) A5 (zl Mr) c5 (Er)
          have k0 := LP.b0.c30
          have k1 := LP.b0.c31
          have k2 := LP.b0.c32
          unfold put3 at k0 k1 k2
          exact bodyPost_ret (v := .agg #[.bool (ng Mr), .slice A5 (zl Mr) c5, .int .i64 (Er)]) (by simp [results, Tryz.results154, go_sem, k0, k1, k2]) rfl ⟨_, rfl, isD_n LP.hn, LP.below⟩
      · have r6 : (sg9 == 0) = false := r5.trans (decide_eq_false h0)
        have HI := Lib.hid (HQ.out.2.2 h0)
        clear r5 HQ O1 O2 O3 O4 O5 G3 G4
        replace L := L.swap
        have cel00 := L.b0.c30
        have f00 := L.b0.fr 0
        have cel01 := L.b0.c31
        have f01 := L.b0.fr 1
        have cel02 := L.b0.c32
        have f02 := L.b0.fr 2
        have cel10 := L.tl.b0.c30
        have cel11 := L.tl.b0.c31
        have cel12 := L.tl.b0.c32
        go_wp2_with fail
        refine (O6.out _ _ _ (isD_n (m := N) (e := K) (s := .slice A2 (zl N) c2) (L.getN (by simp))) (isD_n (m := M2) (e := E2) (s := .slice A3 (zl M2) c3) (L.getN (by simp))) L.below).mono ?_
        rintro e w13 ⟨vv, rfl, id, be⟩
        clear cel00 f00 cel01 f01 cel02 f02 cel10 cel11 cel12
        obtain ⟨A6, c6, rfl, _, in9⟩ := id.form
        replace L := (L.step be).n in9
        clear be id in9
        have cel00 := L.b0.c30
        have f00 := L.b0.fr 0
        have cel01 := L.b0.c31
        have f01 := L.b0.fr 1
        have cel02 := L.b0.c32
        have f02 := L.b0.fr 2
        replace L := L.putD (by omega) (by first | (simp; done) | (simp; omega)) (ng N2) A6 (zl N2) c6 K2
        unfold put3 at L
        go_wp2_with fail
        go_roundw
        case rel => exact ⟨g, k + 1, t2, s2, M2, E2, N2, K2, A3, A6, c3, c6, by go_num, L.subs (by simp) (by simp), Lib.hid ⟨HI.out, HM2.out⟩⟩
        case measure => simp [intOf]; omega


end Go.Proofs.YtnnfldkllhdhjaaGreatDoor
