/- Joined: ExQ, LnPE, Awake15, RefLnS, DyOpen (what the law leans on). -/
import Derived.Test.YtmlddkiccjpoeaaGreatDoorBaseIS
import Derived.Test.YtmlddkiccjpoeaaGreatDoorBaseDS
import Derived.Test.YtmlddkiccjpoeaaGreatDoorBaseES
import Derived.Test.YtmlddkiccjpoeaaGreatDoorBaseVS
import Derived.Test.YtmlddkiccjpoeaaGreatDoorBaseWS
import Derived.Test.YtmlddkiccjpoeaaGreatDoorBaseZS
import Derived.Test.YtmlddkiccjpoeaaGreatDoorBaseUS
import Derived.Test.YtmlddkiccjpoeaaGreatDoorJS1
import Derived.ChangeOld
import Derived.Deep.Cut
import Derived.Deep.CutRange
import Derived.Deep.DrawnRows
import Derived.Deep.RegionHeld3
import Derived.Lib.SmallJoins
import Derived.OpenShut
import Derived.ProofKit
namespace Go.Proofs.YtmlddkiccjpoeaaGreatDoor
open Go.RowKit
set_option linter.unusedVariables false
set_option linter.unusedSimpArgs false
set_option maxRecDepth 100000
attribute [local go_sem ↓] Go.wp_at_zero Go.wp_at_succ

theorem AbP.fl {x n : Int} {j : Nat} (h : AbP x j) (hn : 0 < n) : AbP (x / n) j := Nat.le_trans (abs_floor x hn) h
theorem AbP.cd {x n : Int} {j : Nat} (h : AbP x j) (hn : 0 < n) : AbP (cdv x n) j := (h.neg.fl hn).neg
theorem AbP.mn4 {a b c d : Int} {j : Nat} (h1 : AbP a j) (h2 : AbP b j) (h3 : AbP c j) (h4 : AbP d j) : AbP (mn4 a b c d) j := by
  unfold AbP Go.Proofs.YtmlddkiccjpoeaaGreatDoor.mn4 at *
  omega
theorem AbP.mx4 {a b c d : Int} {j : Nat} (h1 : AbP a j) (h2 : AbP b j) (h3 : AbP c j) (h4 : AbP d j) : AbP (mx4 a b c d) j := by
  unfold AbP Go.Proofs.YtmlddkiccjpoeaaGreatDoor.mx4 at *
  omega
theorem AbP.shr {x : Int} {j v : Nat} (h : AbP x (j + v)) : AbP (x / 2 ^ v) j := by
  unfold AbP at *
  have hp := pow2_pos v
  rw [Nat.pow_add] at h
  have e : (((2 : Nat) ^ v : Nat) : Int) = 2 ^ v := by simp
  obtain ⟨Q, hQ⟩ : ∃ Q : Nat, 2 ^ j = Q := ⟨_, rfl⟩
  obtain ⟨P, hP⟩ : ∃ P : Nat, 2 ^ v = P := ⟨_, rfl⟩
  rw [hQ, hP] at h
  rw [hQ]
  rw [hP] at e
  rw [← e] at hp ⊢
  have h2 : ((x.natAbs : Nat) : Int) ≤ (Q : Int) * (P : Int) := by exact_mod_cast h
  have h3 : x / (P : Int) ≤ (Q : Int) := Int.ediv_le_of_le_mul hp (by omega)
  have h4 : -(Q : Int) ≤ x / (P : Int) := (Int.le_ediv_iff_mul_le hp).2 (by rw [Int.neg_mul]; omega)
  omega
theorem AbP.cshr {x : Int} {j v : Nat} (h : AbP x (j + v)) : AbP (cdv x (2 ^ v)) j := by
  have := (AbP.shr (x := -x) h.neg).neg
  exact this
/-- A round of the series: the number of rounds t, the fuel f, the term's span (a, b), the sum's span (p, q). -/
structure ExS (v f t : Nat) (y : Rat) (a b p q : Int) : Prop where
  tf : t + f = v
  tm : SpC a b v (tm t y)
  sm : SpC p q v (esm (t + 1) y)
  aa : AbP a f
  bb : AbP b f
  pp : p.natAbs + 2 ^ f ≤ 2 ^ (v + 1)
  qq : q.natAbs + 2 ^ f ≤ 2 ^ (v + 1)
theorem ExS.first (v : Nat) (y : Rat) : ExS v v 0 y (2 ^ v) (2 ^ v) (2 ^ v) (2 ^ v) := by
  have h := SpC.of 1 v
  rw [Int.one_mul, show ((1 : Int) : Rat) = 1 from rfl] at h
  have e : ((2 : Int) ^ v).natAbs = 2 ^ v := by rw [Int.natAbs_pow]; rfl
  have h2 : ((2 : Int) ^ v).natAbs + 2 ^ v ≤ 2 ^ (v + 1) := by rw [e, Nat.pow_succ]; omega
  refine ⟨by omega, h, ?_, Nat.le_of_eq e, Nat.le_of_eq e, h2, h2⟩
  rwa [show esm (0 + 1) y = 1 from by show (0 : Rat) + 1 = 1; grind]
theorem ExS.step {v f t : Nat} {y : Rat} {a b p q c d A B : Int} (h : ExS v f t y a b p q) (hy : SpC c d v y) (hc : AbP c (v - 1)) (hd : AbP d (v - 1)) (ht : tnB a b = false)
    (eA : mn4 (a * c) (a * d) (b * c) (b * d) / 2 ^ v = A) (eB : cdv (mx4 (a * c) (a * d) (b * c) (b * d)) (2 ^ v) = B) :
    ∃ g, f = g + 1 ∧ AbP A g ∧ AbP B g ∧ ExS v g (t + 1) y (A / ((t + 1 : Nat) : Int)) (cdv B ((t + 1 : Nat) : Int)) (p + A / ((t + 1 : Nat) : Int)) (q + cdv B ((t + 1 : Nat) : Int)) := by
  have hf : 0 < f := by
    rcases Nat.eq_zero_or_pos f with rfl | h0
    · have h1 := h.aa
      have h2 := h.bb
      unfold AbP at h1 h2
      rw [Nat.pow_zero] at h1 h2
      unfold tnB at ht
      rw [decide_eq_true h1, decide_eq_true h2] at ht
      cases ht
    · exact h0
  obtain ⟨g, rfl⟩ : ∃ g, f = g + 1 := ⟨f - 1, by omega⟩
  have tf := h.tf
  have hm : ∀ x z : Int, AbP x (g + 1) → AbP z (v - 1) → AbP (x * z) (g + v) := fun x z h1 h2 => by
    have := h1.mul h2
    rwa [show g + 1 + (v - 1) = g + v by omega] at this
  have m1 := hm a c h.aa hc
  have m2 := hm a d h.aa hd
  have m3 := hm b c h.bb hc
  have m4 := hm b d h.bb hd
  have hA : AbP A g := by rw [← eA]; exact (AbP.mn4 m1 m2 m3 m4).shr
  have hB : AbP B g := by rw [← eB]; exact (AbP.mx4 m1 m2 m3 m4).cshr
  have n0 : (0 : Int) < ((t + 1 : Nat) : Int) := by omega
  have sp : SpC A B v (Go.Proofs.YtmlddkiccjpoeaaGreatDoor.tm t y * y) := by rw [← eA, ← eB]; exact h.tm.mul hy
  have so := sp.over n0
  rw [show Go.Proofs.YtmlddkiccjpoeaaGreatDoor.tm t y * y / (((t + 1 : Nat) : Int) : Rat) = Go.Proofs.YtmlddkiccjpoeaaGreatDoor.tm (t + 1) y from by
    show _ = Go.Proofs.YtmlddkiccjpoeaaGreatDoor.tm t y * y / ((t : Rat) + 1)
    rw [show (((t + 1 : Nat) : Int) : Rat) = (t : Rat) + 1 from by rw [Rat.intCast_natCast, Rat.natCast_add]; rfl]] at so
  have hA2 := hA.fl n0
  have hB2 := hB.cd n0
  refine ⟨g, rfl, hA, hB, by omega, so, h.sm.add so, hA2, hB2, ?_, ?_⟩
  · have h1 := h.pp
    unfold AbP at hA2
    rw [Nat.pow_succ] at h1
    omega
  · have h1 := h.qq
    unfold AbP at hB2
    rw [Nat.pow_succ] at h1
    omega
theorem ExS.last {v f t : Nat} {y : Rat} {a b p q : Int} (h : ExS v f t y a b p q) (ht : tnB a b = true) (hy : 8 * rab y ≤ 1) : RSp (p - 3) (q + 3) v y := by
  refine RSp.series h.sm hy ?_
  unfold tnB at ht
  rw [Bool.and_eq_true, decide_eq_true_iff, decide_eq_true_iff] at ht
  have h1 := (dq_le_iff (-1) a (-(v : Int))).2 (by omega)
  have h2 := (dq_le_iff b 1 (-(v : Int))).2 (by omega)
  rw [dq_neg] at h1
  obtain ⟨h3, h4⟩ := h.tm
  unfold rab
  split
  · grind
  · rw [tm_neg]
    rcases sgk_or t with e | e <;> rw [e] <;> grind
/-- The bits of the ends behind i squares. -/
def sqbits (v i : Nat) : Nat := v + (3 * 2 ^ i - 1)
theorem ExS.ends {v f t : Nat} {y : Rat} {a b p q : Int} (h : ExS v f t y a b p q) (hv : 1 ≤ v) : AbP (p - 3) (sqbits v 0) ∧ AbP (q + 3) (sqbits v 0) := by
  have e : sqbits v 0 = v + 1 + 1 := rfl
  have h1 := h.pp
  have h2 := h.qq
  have h3 : 2 ≤ 2 ^ v := Nat.pow_le_pow_right (n := 2) (i := 1) (by omega) hv
  have h4 := Nat.pow_pos (n := f) (show 0 < 2 by omega)
  unfold AbP
  rw [e, Nat.pow_succ, Nat.pow_succ]
  rw [Nat.pow_succ] at h1 h2
  omega
/-- A round of the squares. -/
structure ExD (v i : Nat) (y : Rat) (a b : Int) : Prop where
  rs : RSp a b v ((((2 : Nat) ^ i : Nat) : Rat) * y)
  aa : AbP a (sqbits v i)
  bb : AbP b (sqbits v i)
theorem ExD.first {v : Nat} {y : Rat} {a b : Int} (h : RSp a b v y) (ha : AbP a (sqbits v 0)) (hb : AbP b (sqbits v 0)) : ExD v 0 y a b :=
  ⟨by rwa [show (((2 : Nat) ^ 0 : Nat) : Rat) * y = y from by rw [Nat.pow_zero]; exact Rat.one_mul y], ha, hb⟩
theorem ExD.step {v i : Nat} {y : Rat} {a b A B : Int} (h : ExD v i y a b) (eA : mn4 (a * a) (a * b) (b * a) (b * b) / 2 ^ v = A) (eB : cdv (mx4 (a * a) (a * b) (b * a) (b * b)) (2 ^ v) = B) : ExD v (i + 1) y A B := by
  have e : sqbits v i + sqbits v i = sqbits v (i + 1) - 1 + v := by
    unfold sqbits
    have := Nat.pow_pos (n := i) (show 0 < 2 by omega)
    rw [Nat.pow_succ]
    omega
  have e2 : sqbits v (i + 1) - 1 ≤ sqbits v (i + 1) := by omega
  have hm : ∀ x z : Int, AbP x (sqbits v i) → AbP z (sqbits v i) → AbP (x * z) (sqbits v (i + 1) - 1 + v) := fun x z h1 h2 => by
    have := h1.mul h2
    rwa [e] at this
  have m1 := hm a a h.aa h.aa
  have m2 := hm a b h.aa h.bb
  have m3 := hm b a h.bb h.aa
  have m4 := hm b b h.bb h.bb
  have r := h.rs.sq
  rw [eA, eB, ← Rat.mul_assoc, show (2 : Rat) * (((2 : Nat) ^ i : Nat) : Rat) = (((2 : Nat) ^ (i + 1) : Nat) : Rat) from by
    rw [Nat.pow_succ, Rat.natCast_mul, Rat.mul_comm]; rfl] at r
  exact ⟨r, by rw [← eA]; exact (AbP.mn4 m1 m2 m3 m4).shr.up e2, by rw [← eB]; exact (AbP.mx4 m1 m2 m3 m4).cshr.up e2⟩
theorem RSp.out {a b : Int} {v k j : Nat} {x : Rat} (h : RSp a b v x) (hj : v = k + j) : LoE (dq (a / 2 ^ j) (-(k : Int))) x ∧ UpE x (dq (cdv b (2 ^ j)) (-(k : Int))) := by
  have hp := pow2_pos j
  have e : dq 1 (-(k : Int)) = dq 1 (-(v : Int)) * (((2 : Int) ^ j : Int) : Rat) := by
    have h1 := two_cast v
    have h2 := two_cast k
    rw [hj, Int.pow_add, Rat.intCast_mul] at h1
    rw [← hj] at h1
    have h3 := dq_pos (-(k : Int))
    grind
  have e2 : ∀ X : Int, dq X (-(k : Int)) = dq X (-(v : Int)) * (((2 : Int) ^ j : Int) : Rat) := fun X => by
    rw [dq_scale X, dq_scale X (-(v : Int)), e]; grind
  refine ⟨h.1.down ?_, h.2.up ?_⟩
  · rw [e2]; exact fdiv_le hp _
  · rw [e2]; exact le_cdiv hp _
set_option maxHeartbeats 4000000 in
theorem xln_dom (m e n f k : Int) (vx : Value) (w : World) (hx : IsI w vx m e n f) (hk : okL k = true) (ln : zl n ≤ 1000) (h0 : n ≤ 0) :
    Calls Tryz.prog 13 #[vx, .int .i64 k] w (RetIE w 0 0 0 0 4) := by
  obtain ⟨A, c, B, d, rfl, hn1, hn2⟩ := hx.form
  have L0 := ((Lq.mk0 w).n hn2).n hn1
  have HP0 := fun W => lperm_any k W
  rw [hk] at HP0
  have HP := Lib.hid HP0
  have G1 := Lib.hid (fun x W h => dsign_any n f x W h (by omega))
  obtain ⟨s, hs⟩ : ∃ s, cmpI n 0 = s := ⟨_, rfl⟩
  have hs0 : s ≤ 0 := by rw [← hs]; unfold cmpI; (repeat' split) <;> omega
  rw [hs] at G1
  clear HP0 hx hs ln h0
  go_enter Tryz.func13, Tryz.ntmps13
  have L := ((L0.varI (w.heap.size) (by simp) (ng m) A (zl m) c e (ng n) B (zl n) d f).varI (w.heap.size + 1) (by simp) false none 0 0 0 false none 0 0 0)
  have c00 := L.b0.c60
  have f00 := L.b0.fr 0
  have c01 := L.b0.c61
  have f01 := L.b0.fr 1
  have c02 := L.b0.c62
  have f02 := L.b0.fr 2
  have c03 := L.b0.c63
  have f03 := L.b0.fr 3
  have c04 := L.b0.c64
  have f04 := L.b0.fr 4
  have c05 := L.b0.c65
  have f05 := L.b0.fr 5
  have c10 := L.tl.b0.c60
  have c11 := L.tl.b0.c61
  have c12 := L.tl.b0.c62
  have c13 := L.tl.b0.c63
  have c14 := L.tl.b0.c64
  have c15 := L.tl.b0.c65
  (try go_wp2_with fail)
  refine (HP.out _).mono ?_
  rintro e9 w' ⟨rfl, rfl⟩
  (try go_wp2_with fail)
  refine (G1.out _ _ (isD_n (m := n) (e := f) (s := .slice B (zl n) d) (L.getN (by simp)))).mono ?_
  rintro e w1 ⟨rfl, be⟩
  clear c00 f00 c01 f01 c02 f02 c03 f03 c04 f04 c05 f05 c10 c11 c12 c13 c14 c15
  replace L := L.step be
  clear be
  have d1 : decide (s ≤ 0) = true := decide_eq_true hs0
  have c00 := L.b0.c60
  have f00 := L.b0.fr 0
  have c01 := L.b0.c61
  have f01 := L.b0.fr 1
  have c02 := L.b0.c62
  have f02 := L.b0.fr 2
  have c03 := L.b0.c63
  have f03 := L.b0.fr 3
  have c04 := L.b0.c64
  have f04 := L.b0.fr 4
  have c05 := L.b0.c65
  have f05 := L.b0.fr 5
  (try go_wp2_with fail)
  clear c00 f00 c01 f01 c02 f02 c03 f03 c04 f04 c05 f05
  have LP := L.putI (by omega) (by first | (simp; done) | (simp; omega)) false none 0 0 0 false none 0 0 0
  have k0 := LP.b0.c60
  have k1 := LP.b0.c61
  have k2 := LP.b0.c62
  have k3 := LP.b0.c63
  have k4 := LP.b0.c64
  have k5 := LP.b0.c65
  unfold put6 at k0 k1 k2 k3 k4 k5
  exact bodyPost_ret (v := .tuple #[.agg #[.bool false, .slice none 0 0, .int .i64 0, .bool false, .slice none 0 0, .int .i64 0], .int .i64 4]) (by simp [results, Tryz.results13, go_sem, k0, k1, k2, k3, k4, k5]) rfl ⟨_, rfl, isI_zero _, LP.below⟩
set_option maxHeartbeats 4000000 in
theorem xln_unk (m e n f k : Int) (vx : Value) (w : World) (hx : IsI w vx m e n f) (hk : okL k = true) (ln : zl n ≤ 1000) (lm : zl m ≤ 1000) (h1 : 0 < n) (h0 : m ≤ 0) :
    Calls Tryz.prog 13 #[vx, .int .i64 k] w (RetIE w 0 0 0 0 5) := by
  obtain ⟨A, c, B, d, rfl, hn1, hn2⟩ := hx.form
  have L0 := ((Lq.mk0 w).n hn2).n hn1
  have HP0 := fun W => lperm_any k W
  rw [hk] at HP0
  have HP := Lib.hid HP0
  have G1 := Lib.hid (fun x W h => dsign_any n f x W h (by omega))
  have G2 := Lib.hid (fun x W h => dsign_any m e x W h (by omega))
  obtain ⟨s, hs⟩ : ∃ s, cmpI m 0 = s := ⟨_, rfl⟩
  have hs0 : s ≤ 0 := by rw [← hs]; unfold cmpI; (repeat' split) <;> omega
  rw [hs] at G2
  rw [cmpI_gt h1] at G1
  clear HP0 hx hs lm ln h0 h1
  go_enter Tryz.func13, Tryz.ntmps13
  have L := ((L0.varI (w.heap.size) (by simp) (ng m) A (zl m) c e (ng n) B (zl n) d f).varI (w.heap.size + 1) (by simp) false none 0 0 0 false none 0 0 0)
  have c00 := L.b0.c60
  have f00 := L.b0.fr 0
  have c01 := L.b0.c61
  have f01 := L.b0.fr 1
  have c02 := L.b0.c62
  have f02 := L.b0.fr 2
  have c03 := L.b0.c63
  have f03 := L.b0.fr 3
  have c04 := L.b0.c64
  have f04 := L.b0.fr 4
  have c05 := L.b0.c65
  have f05 := L.b0.fr 5
  have c10 := L.tl.b0.c60
  have c11 := L.tl.b0.c61
  have c12 := L.tl.b0.c62
  have c13 := L.tl.b0.c63
  have c14 := L.tl.b0.c64
  have c15 := L.tl.b0.c65
  (try go_wp2_with fail)
  refine (HP.out _).mono ?_
  rintro e9 w' ⟨rfl, rfl⟩
  (try go_wp2_with fail)
  refine (G1.out _ _ (isD_n (m := n) (e := f) (s := .slice B (zl n) d) (L.getN (by simp)))).mono ?_
  rintro e w1 ⟨rfl, be⟩
  clear c00 f00 c01 f01 c02 f02 c03 f03 c04 f04 c05 f05 c10 c11 c12 c13 c14 c15
  replace L := L.step be
  clear be
  have c00 := L.b0.c60
  have f00 := L.b0.fr 0
  have c01 := L.b0.c61
  have f01 := L.b0.fr 1
  have c02 := L.b0.c62
  have f02 := L.b0.fr 2
  have c03 := L.b0.c63
  have f03 := L.b0.fr 3
  have c04 := L.b0.c64
  have f04 := L.b0.fr 4
  have c05 := L.b0.c65
  have f05 := L.b0.fr 5
  have c10 := L.tl.b0.c60
  have c11 := L.tl.b0.c61
  have c12 := L.tl.b0.c62
  have c13 := L.tl.b0.c63
  have c14 := L.tl.b0.c64
  have c15 := L.tl.b0.c65
  (try go_wp2_with fail)
  refine (G2.out _ _ (isD_n (m := m) (e := e) (s := .slice A (zl m) c) (L.getN (by simp)))).mono ?_
  rintro e w2 ⟨rfl, be⟩
  clear c00 f00 c01 f01 c02 f02 c03 f03 c04 f04 c05 f05 c10 c11 c12 c13 c14 c15
  replace L := L.step be
  clear be
  have d1 : decide (s ≤ 0) = true := decide_eq_true hs0
  have c00 := L.b0.c60
  have f00 := L.b0.fr 0
  have c01 := L.b0.c61
  have f01 := L.b0.fr 1
  have c02 := L.b0.c62
  have f02 := L.b0.fr 2
  have c03 := L.b0.c63
  have f03 := L.b0.fr 3
  have c04 := L.b0.c64
  have f04 := L.b0.fr 4
  have c05 := L.b0.c65
  have f05 := L.b0.fr 5
  (try go_wp2_with fail)
  clear c00 f00 c01 f01 c02 f02 c03 f03 c04 f04 c05 f05
  have LP := L.putI (by omega) (by first | (simp; done) | (simp; omega)) false none 0 0 0 false none 0 0 0
  have k0 := LP.b0.c60
  have k1 := LP.b0.c61
  have k2 := LP.b0.c62
  have k3 := LP.b0.c63
  have k4 := LP.b0.c64
  have k5 := LP.b0.c65
  unfold put6 at k0 k1 k2 k3 k4 k5
  exact bodyPost_ret (v := .tuple #[.agg #[.bool false, .slice none 0 0, .int .i64 0, .bool false, .slice none 0 0, .int .i64 0], .int .i64 5]) (by simp [results, Tryz.results13, go_sem, k0, k1, k2, k3, k4, k5]) rfl ⟨_, rfl, isI_zero _, LP.below⟩
theorem n_1 : mkM 1 0 = 1 ∧ mkE 1 0 = 0 := by
  have hv : Dv 1 0 := Or.inr ⟨by decide, by decide +kernel⟩
  exact (dv_mk hv (Nat.le_trans (len_le1 (show 1 < 4294967296 by omega)) (by omega)) (by omega)).2
theorem n_m1 : mkM (-1) 0 = -1 ∧ mkE (-1) 0 = 0 := by
  have hv : Dv (-1) 0 := Or.inr ⟨by decide, by decide +kernel⟩
  exact (dv_mk hv (Nat.le_trans (len_le1 (show (-1 : Int).natAbs < 4294967296 by decide)) (by omega)) (by omega)).2
theorem n_4 : mkM 4 0 = 1 ∧ mkE 4 0 = 2 := by
  obtain ⟨a1, _, _, _, _, a6⟩ := nf (t := 4) (v := 2) (by unfold AbP; decide) (by omega)
  have hv : Dv 1 2 := Or.inr ⟨by decide, by decide +kernel⟩
  exact dv_uniq (mk_ok a1) hv (by rw [a6]; decide +kernel)
theorem sp_4 : spK 1 2 = 2 ∧ spE 1 = 0 := by
  have h : spN 1 = 1 := blen_of (n := 0) (by decide) (by decide)
  unfold spK spE spB
  rw [h]
  decide
theorem zl_one : zl 1 ≤ 1 := len_le1 (show 1 < 4294967296 by omega)
theorem zl_mone : zl (-1) ≤ 1 := len_le1 (show (-1 : Int).natAbs < 4294967296 by decide)
theorem zl_nil : zl 0 ≤ 1 := len_le1 (show 0 < 4294967296 by omega)

set_option maxHeartbeats 8000000 in
theorem awake15_any (w : World) (hT : Tab w) :
    Calls Tryz.prog 9 #[] w (RetB w true) := by
  have z1 := zl_one
  have z2 := zl_mone
  have z0 := zl_nil
  have g1 := fun W => of15_any 0 1 W (by omega) (by omega)
  rw [nf00.1, nf00.2, n_1.1, n_1.2] at g1
  have g2 := fun v W h => xln_unk 0 0 1 0 5 v W h (by decide) (by omega) (by omega) (by decide) (by omega)
  have g3 := fun W => of15_any (-1) 0 W (by omega) (by omega)
  obtain ⟨q, hq⟩ : ∃ q : Int, (-1 : Int) = q := ⟨_, rfl⟩
  have nq : mkM (-1) 0 = q ∧ mkE (-1) 0 = 0 := by rw [← hq]; exact n_m1
  rw [nf00.1, nf00.2, nq.1, nq.2] at g3
  have g4 := fun v W h => xln_dom q 0 0 0 5 v W h (by decide) (by omega) (by omega)
  clear nq hq
  have g5 := fun W => rof8_any 4 W (by omega) (by omega)
  rw [n_4.1, n_4.2] at g5
  have hv : Dv 1 2 := Or.inr ⟨by decide, by decide +kernel⟩
  have g6 := fun v W h (hW : Below w.heap.size w W) => lsplit_any 1 2 v W h (by decide) hv (by omega) (by omega) (hT.mono hW)
  rw [sp_4.1, sp_4.2] at g6
  have g7 := fun W => rof8_any 1 W (by omega) (by omega)
  rw [n_1.1, n_1.2] at g7
  have g8 : ∀ v u W, IsD W v 1 0 → IsD W u 1 0 → Calls Tryz.prog 30 #[v, u] W (RetB W true) := fun v u W h k => by
    have s := same8_any 1 0 1 0 v u W h k
    rwa [show (decide ((0 : Int) = 0) && decide ((1 : Int) = 1)) = true from by decide] at s
  clear hv hT
  have G1 := Lib.hid g1
  have G2 := Lib.hid g2
  have G3 := Lib.hid g3
  have G4 := Lib.hid g4
  have G5 := Lib.hid g5
  have G6 := Lib.hid g6
  have G7 := Lib.hid g7
  have G8 := Lib.hid g8
  clear g1 g2 g3 g4 g5 g6 g7 g8
  go_enter Tryz.func9, Tryz.ntmps9
  go_wp2_with fail
  have L := Lq.mk0 w
  (try go_wp2_with fail)
  refine (G1.out _).mono ?_
  rintro e w1 ⟨vv, rfl, ii, be⟩
  obtain ⟨A1, c1, B1, d1, rfl, ia, ib⟩ := ii.form
  replace L := ((L.step be).n ib).n ia
  clear be ii ia ib
  have hl2 := L.below.size
  (try go_wp2_with fail)
  refine (G2.out _ _ (isI_n (m := 0) (e := 0) (n := 1) (f := 0) (s := .slice A1 (zl 0) c1) (t := .slice B1 (zl 1) d1) (L.getN (by simp)) (L.getN (by simp)))).mono ?_
  rintro e w2 ⟨vv, rfl, ii, be⟩
  obtain ⟨A2, c2, B2, d2, rfl, ia, ib⟩ := ii.form
  replace L := ((L.step be).n ib).n ia
  clear be ii ia ib hl2
  have hl2 := L.below.size
  replace L := L.varI w2.heap.size rfl (ng 0) A2 (zl 0) c2 0 (ng 0) B2 (zl 0) d2 0
  have cel00 := L.b0.c60
  have f00 := L.b0.fr 0
  have cel01 := L.b0.c61
  have f01 := L.b0.fr 1
  have cel02 := L.b0.c62
  have f02 := L.b0.fr 2
  have cel03 := L.b0.c63
  have f03 := L.b0.fr 3
  have cel04 := L.b0.c64
  have f04 := L.b0.fr 4
  have cel05 := L.b0.c65
  have f05 := L.b0.fr 5
  go_wp2_with fail
  clear cel00 f00 cel01 f01 cel02 f02 cel03 f03 cel04 f04 cel05 f05
  obtain ⟨b1, hb1⟩ : ∃ g9, w2.heap.size = g9 := ⟨_, rfl⟩
  rw [hb1] at L hl2 ⊢
  clear hb1
  refine (G3.out _).mono ?_
  rintro e w3 ⟨vv, rfl, ii, be⟩
  obtain ⟨A3, c3, B3, d3, rfl, ia, ib⟩ := ii.form
  replace L := ((L.step be).n ib).n ia
  clear be ii ia ib
  clear hl2
  have hl2 := L.b0.lt
  (try go_wp2_with fail)
  refine (G4.out _ _ (isI_n (m := q) (e := 0) (n := 0) (f := 0) (s := .slice A3 (zl q) c3) (t := .slice B3 (zl 0) d3) (L.getN (by simp)) (L.getN (by simp)))).mono ?_
  rintro e w4 ⟨vv, rfl, ii, be⟩
  obtain ⟨A4, c4, B4, d4, rfl, ia, ib⟩ := ii.form
  replace L := ((L.step be).n ib).n ia
  clear be ii ia ib hl2
  have hl2 := L.b0.lt
  replace L := L.varI w4.heap.size rfl (ng 0) A4 (zl 0) c4 0 (ng 0) B4 (zl 0) d4 0
  have cel00 := L.b0.c60
  have f00 := L.b0.fr 0
  have cel01 := L.b0.c61
  have f01 := L.b0.fr 1
  have cel02 := L.b0.c62
  have f02 := L.b0.fr 2
  have cel03 := L.b0.c63
  have f03 := L.b0.fr 3
  have cel04 := L.b0.c64
  have f04 := L.b0.fr 4
  have cel05 := L.b0.c65
  have f05 := L.b0.fr 5
  go_wp2_with fail
  clear cel00 f00 cel01 f01 cel02 f02 cel03 f03 cel04 f04 cel05 f05
  obtain ⟨b2, hb2⟩ : ∃ g9, w4.heap.size = g9 := ⟨_, rfl⟩
  rw [hb2] at L hl2 ⊢
  clear hb2
  refine (G5.out _).mono ?_
  rintro e w5 ⟨v9, rfl, iz, be⟩
  obtain ⟨A5, c5, rfl, _, in9⟩ := iz.form
  replace L := (L.step be).n in9
  clear be iz in9
  (try go_wp2_with fail)
  refine (G6.out _ _ (isD_n (m := 1) (e := 2) (s := .slice A5 (zl 1) c5) (L.getN (by simp))) L.below).mono ?_
  rintro e w6 ⟨v9, rfl, iz, be⟩
  obtain ⟨A6, c6, rfl, _, in9⟩ := iz.form
  replace L := (L.step be).n in9
  clear be iz in9
  have hl9 := L.b0.lt
  clear hl2
  have hl2 := hl9
  clear hl9
  replace L := L.varD w6.heap.size rfl (ng 1) A6 (zl 1) c6 0
  have cel00 := L.b0.c30
  have f00 := L.b0.fr 0
  have cel01 := L.b0.c31
  have f01 := L.b0.fr 1
  have cel02 := L.b0.c32
  have f02 := L.b0.fr 2
  go_wp2_with fail
  clear cel00 f00 cel01 f01 cel02 f02
  obtain ⟨b3, hb3⟩ : ∃ g9, w6.heap.size = g9 := ⟨_, rfl⟩
  rw [hb3] at L hl2 ⊢
  clear hb3
  replace L := L.drew
  have cel00 := L.b0.c30
  have cel01 := L.b0.c31
  have cel02 := L.b0.c32
  go_region_held3 (fun w' => w'.cell? ⟨b3, 0, none⟩ = some (.bool (ng 1)) ∧ w'.cell? ⟨b3, 1, none⟩ = some (.slice A6 (zl 1) c6) ∧ w'.cell? ⟨b3, 2, none⟩ = some (.int .i64 0)) (first | (with_reducible exact ⟨L.b0.c30, L.b0.c31, L.b0.c32⟩) | exact ⟨L.b0.c30, L.b0.c31, L.b0.c32⟩) (first | (go_at_call 31; (with_reducible refine (G7.out _ ).mono ?_); rintro e wh ⟨vh, rfl, id, be⟩; obtain ⟨A7, c7, rfl, _, in9⟩ := id.form; replace L := (L.step be).n in9; clear be id in9) | (go_at_call 30; (with_reducible refine (G8.out _ _ _ ?_ ?_ ).mono ?_); (· (refine isD_n (L.getN ?_); (repeat (first | (with_reducible exact List.mem_cons_self) | apply List.mem_cons_of_mem)))); (· (refine isD_n (L.getN ?_); (repeat (first | (with_reducible exact List.mem_cons_self) | apply List.mem_cons_of_mem)))); rintro e wh ⟨rfl, be⟩; replace L := L.step be; clear be))
  (try go_wp2_with fail)
  (try go_ret)
  exact ⟨rfl, L.below⟩

set_option maxHeartbeats 8000000 in
theorem s15split_no (m e : Int) (vx : Value) (w : World) (hx : IsD w vx m e) (hm : m ≤ 0) (lm : zl m ≤ 1000) :
    Calls Tryz.prog 29 #[vx] w (RetSK w 0 0 0 4) := by
  obtain ⟨A, c, rfl, _, hn⟩ := hx.form
  have L0 := (Lq.mk0 w).n hn
  have g1 := fun x W h => rsign8_any m e x W h (by omega)
  obtain ⟨s, hs⟩ : ∃ s, cmpI m 0 = s := ⟨_, rfl⟩
  have hs0 : s ≤ 0 := by rw [← hs]; unfold cmpI; (repeat' split) <;> omega
  rw [hs] at g1
  have d1 : decide (s ≤ 0) = true := decide_eq_true hs0
  have G1 := Lib.hid g1
  clear g1 hs hs0 hx hm lm
  go_enter Tryz.func29, Tryz.ntmps29
  have L := ((L0.varD (w.heap.size) (by simp) (ng m) A (zl m) c e).varD (w.heap.size + 1) (by simp) false none 0 0 0)
  have c00 := L.b0.c30
  have f00 := L.b0.fr 0
  have c01 := L.b0.c31
  have f01 := L.b0.fr 1
  have c02 := L.b0.c32
  have f02 := L.b0.fr 2
  have c10 := L.tl.b0.c30
  have c11 := L.tl.b0.c31
  have c12 := L.tl.b0.c32
  (try go_wp2_with fail)
  refine (G1.out _ _ (isD_n (m := m) (e := e) (s := .slice A (zl m) c) (L.getN (by simp)))).mono ?_
  rintro e w1 ⟨rfl, be⟩
  clear c00 f00 c01 f01 c02 f02 c10 c11 c12
  replace L := L.step be
  clear be
  have c00 := L.b0.c30
  have f00 := L.b0.fr 0
  have c01 := L.b0.c31
  have f01 := L.b0.fr 1
  have c02 := L.b0.c32
  have f02 := L.b0.fr 2
  (try go_wp2_with fail)
  clear c00 f00 c01 f01 c02 f02
  have LP := L.putD (by omega) (by first | (simp; done) | (simp; omega)) false none 0 0 0
  have k0 := LP.b0.c30
  have k1 := LP.b0.c31
  have k2 := LP.b0.c32
  unfold put3 at k0 k1 k2
  exact bodyPost_ret (v := .tuple #[.int .i64 0, .agg #[.bool false, .slice none 0 0, .int .i64 0], .int .i64 4]) (by simp [results, Tryz.results29, go_sem, k0, k1, k2]) rfl ⟨_, rfl, ⟨.slice none 0 0, by simp [ng], IsN.zero _⟩, LP.below⟩
set_option maxHeartbeats 16000000 in
theorem s15split_any (m e : Int) (vx : Value) (w : World) (hx : IsD w vx m e) (hm : 0 < m) (hv : Dv m e) (lm : zl m ≤ 400) (he : -70000 ≤ e ∧ e ≤ 70000) :
    Calls Tryz.prog 29 #[vx] w (RetSK w (spK m e) m (spE m) 0) := by
  obtain ⟨A, c, rfl, _, hn⟩ := hx.form
  have L0 := (Lq.mk0 w).n hn
  obtain ⟨n, hn9⟩ : ∃ n, spN m = n := ⟨_, rfl⟩
  have hnb := spN_le m
  obtain ⟨hnp, _, _⟩ := spN_bd hm
  rw [hn9] at hnb hnp
  have g1 := fun x W h => rsign8_any m e x W h (by omega)
  rw [cmpI_gt hm] at g1
  have g2 := fun W h => rbits_any m.natAbs (.slice A (zl m) c) W h (by have e9 : zl m = len m.natAbs := rfl; omega)
  rw [show blen m.natAbs = n from hn9] at g2
  have g3 := fun W => rof8_any 3 W (by omega) (by omega)
  have z3 : zl 3 ≤ 1 := len_le1 (show 3 < 4294967296 by omega)
  have dv3 : ∀ x : Int, -60000 ≤ x ∧ x ≤ 60000 → Dv 3 x := fun x hx => dv_at (m := 3) (e := 0) (Or.inr ⟨by decide, by decide +kernel⟩) (by decide) hx
  obtain ⟨b1, b2, b3⟩ := dv_mk (x := 0) (dv3 0 (by omega)) (by omega) (by omega)
  rw [b2, b3] at g3
  obtain ⟨d1, d2, d3⟩ := dv_mk (x := -1) (dv3 _ (by omega)) (by omega) (by omega)
  have g4 := fun x W h => rmake8_any 3 (-1) x W h (by omega)
  rw [d1, d2, d3] at g4
  have g5 := fun x y W h j => rcmp8_any m (1 - (n : Int)) 3 (-1) x y W h j (by omega) (by omega) (by omega) (by omega)
  have hle := dcm_lt m (1 - (n : Int)) 3 (-1)
  rw [show cmpI (m * 2 ^ (1 - (n : Int) - min (1 - (n : Int)) (-1)).toNat) (3 * 2 ^ (-1 - min (1 - (n : Int)) (-1)).toNat) = dcm m (1 - (n : Int)) 3 (-1) from rfl] at g5
  have hlt2 : dq m (1 - (n : Int)) < dq 3 (-1) ↔ 4 * m < 3 * 2 ^ n := by
    have e1 : dq m (1 - (n : Int)) = dq (4 * m) (-(n : Int) - 1) := by
      refine dq_eq (F := -(n : Int) - 1) ?_ (by omega) (by omega)
      rw [show (1 - (n : Int) - (-(n : Int) - 1)).toNat = 2 by omega, show (-(n : Int) - 1 - (-(n : Int) - 1)).toNat = 0 by omega]
      omega
    have e2 : dq 3 (-1) = dq (3 * 2 ^ n) (-(n : Int) - 1) := by
      refine dq_eq (F := -(n : Int) - 1) ?_ (by omega) (by omega)
      rw [show (-1 - (-(n : Int) - 1)).toNat = n by omega, show (-(n : Int) - 1 - (-(n : Int) - 1)).toNat = 0 by omega]
      simp
    rw [e1, e2]
    constructor
    · intro h
      refine Int.not_le.1 fun hle => Rat.not_le.2 h ((dq_le_iff _ _ _).2 hle)
    · intro h
      refine Rat.not_le.1 fun hle => ?_
      have := (dq_le_iff _ _ _).1 hle
      omega
  rw [hlt2] at hle
  generalize dcm m (1 - (n : Int)) 3 (-1) = cm at *
  have hres : (cm < 0 → spK m e = e + (n : Int) - 1 ∧ spE m = 1 - (n : Int)) ∧ (0 ≤ cm → spK m e = e + (n : Int) ∧ spE m = -(n : Int)) := by
    unfold spK spE spB
    rw [hn9]
    refine ⟨fun h => ?_, fun h => ?_⟩
    · rw [decide_eq_true (hle.1 h), if_pos rfl, if_pos rfl]; omega
    · rw [decide_eq_false (fun h9 => by have := hle.2 h9; omega), if_neg (by decide), if_neg (by decide)]; omega
  have HR := Lib.hid hres
  obtain ⟨x9, hx9⟩ : ∃ z, 1 - (n : Int) = z := ⟨_, rfl⟩
  obtain ⟨y9, hy9⟩ : ∃ z, -(n : Int) = z := ⟨_, rfl⟩
  obtain ⟨k8, hk8⟩ : ∃ z, e + (n : Int) = z := ⟨_, rfl⟩
  obtain ⟨k9, hk9⟩ : ∃ z, e + (n : Int) - 1 = z := ⟨_, rfl⟩
  have w1 : IntKind.i64.wrap (1 - (n : Int)) = x9 := by rw [IntKind.wrap_i64]; omega
  have w2 : IntKind.i64.wrap (e + (n : Int)) = k8 := by rw [IntKind.wrap_i64]; omega
  have w3 : IntKind.i64.wrap (k8 - 1) = k9 := by rw [IntKind.wrap_i64]; omega
  have w4 : IntKind.i64.wrap (x9 - 1) = y9 := by rw [IntKind.wrap_i64]; omega
  have w5 : IntKind.i64.wrap (k9 + 1) = k8 := by rw [IntKind.wrap_i64]; omega
  rw [hx9] at g5
  rw [hx9, hy9, hk9, hk8] at HR
  clear hres hle hlt2 b1 b2 b3 d1 d2 d3 z3 dv3 hnb hnp hn9 hx9 hy9 hk8 hk9 hx hm hv lm hn he
  have G1 := Lib.hid g1
  have G2 := Lib.hid g2
  have G3 := Lib.hid g3
  have G4 := Lib.hid g4
  have G5 := Lib.hid g5
  clear g1 g2 g3 g4 g5
  rcases Int.lt_or_le cm 0 with hcm | hcm
  · have d9 : decide (0 ≤ cm) = false := decide_eq_false (by omega)
    obtain ⟨r1, r2⟩ := HR.out.1 hcm
    rw [r1, r2]
    clear HR r1 r2
    go_enter Tryz.func29, Tryz.ntmps29
    have L := ((L0.varD (w.heap.size) (by simp) (ng m) A (zl m) c e).varD (w.heap.size + 1) (by simp) false none 0 0 0)
    have c10 := L.tl.b0.c30
    have c11 := L.tl.b0.c31
    have c12 := L.tl.b0.c32
    (try go_wp2_with fail)
    refine (G1.out _ _ (isD_n (m := m) (e := e) (s := .slice A (zl m) c) (L.getN (by simp)))).mono ?_
    rintro e w1 ⟨rfl, be⟩
    clear c10 c11 c12
    replace L := L.step be
    clear be
    have c10 := L.tl.b0.c30
    have c11 := L.tl.b0.c31
    have c12 := L.tl.b0.c32
    (try go_wp2_with fail)
    clear c10 c11 c12
    refine (G2.out _ (L.getN (by simp))).mono ?_
    rintro e9 w' ⟨rfl, rfl⟩
    have hl9 := L.b0.lt
    have c10 := L.tl.b0.c30
    have c11 := L.tl.b0.c31
    have c12 := L.tl.b0.c32
    have LN := L.varD w1.heap.size rfl (ng m) A (zl m) c x9
    have v0 := LN.b0.c30
    have v1 := LN.b0.c31
    have v2 := LN.b0.c32
    have v3 := LN.tl.tl.b0.c30
    have v4 := LN.tl.tl.b0.c31
    have v5 := LN.tl.tl.b0.c32
    go_wp2_with fail
    clear v0 v1 v2 v3 v4 v5
    clear c10 c11 c12
    clear L
    have L := LN
    clear LN
    obtain ⟨g1, hg1⟩ : ∃ g9, w1.heap.size = g9 := ⟨_, rfl⟩
    rw [hg1] at L hl9 ⊢
    clear hg1
    have hl_g1 := hl9
    clear hl9
    refine (G3.out _).mono ?_
    rintro e w2 ⟨v9, rfl, iz, be⟩
    obtain ⟨A2, c2, rfl, _, in9⟩ := iz.form
    replace L := (L.step be).n in9
    clear be iz in9
    have hfd : ∀ W, (Instr.field 26 (.agg #[.bool (ng 3), .slice A2 (zl 3) c2, .int .i64 0]) 0).run Tryz.prog W = .ok (.agg #[.bool (ng 3), .slice A2 (zl 3) c2]) W := fun W => by kernel_rfl
    (try go_wp2_with fail)
    clear hfd
    refine (G4.out _ _ ⟨.slice A2 (zl 3) c2, rfl, L.getN (by simp)⟩).mono ?_
    rintro e w3 ⟨v9, rfl, iz, be⟩
    obtain ⟨A3, c3, rfl, _, in9⟩ := iz.form
    replace L := (L.step be).n in9
    clear be iz in9
    have hl9 := L.b0.lt
    replace L := L.varD w3.heap.size rfl (ng 3) A3 (zl 3) c3 (-1)
    have c00 := L.b0.c30
    have c01 := L.b0.c31
    have c02 := L.b0.c32
    have c10 := L.tl.b0.c30
    have c11 := L.tl.b0.c31
    have c12 := L.tl.b0.c32
    go_wp2_with fail
    clear c00 c01 c02 c10 c11 c12
    obtain ⟨g2, hg2⟩ : ∃ g9, w3.heap.size = g9 := ⟨_, rfl⟩
    rw [hg2] at L hl9 ⊢
    clear hg2
    have hl_g2 := hl9
    clear hl9
    refine (G5.out _ _ _ (isD_n (m := m) (e := x9) (s := .slice A (zl m) c) (L.getN (by simp))) (isD_n (m := 3) (e := (-1)) (s := .slice A3 (zl 3) c3) (L.getN (by simp)))).mono ?_
    rintro e w4 ⟨rfl, be⟩
    replace L := L.step be
    clear be
    replace L := L.swap
    have n9 : w.heap.size + 1 ≠ g1 := by omega
    have L9 := L.subx (ns' := [(.slice A (zl m) c, m.natAbs)]) (bs' := [(w.heap.size + 1, 26, #[.bool false, .slice none 0 0, .int .i64 0]), (g1, 26, #[.bool (ng m), .slice A (zl m) c, .int .i64 x9])]) (by simp) (by simp)
    clear L
    have L := L9
    clear L9
    have c00 := L.b0.c30
    have f00 := L.b0.fr 0
    have c01 := L.b0.c31
    have f01 := L.b0.fr 1
    have c02 := L.b0.c32
    have f02 := L.b0.fr 2
    have c10 := L.tl.b0.c30
    have c11 := L.tl.b0.c31
    have c12 := L.tl.b0.c32
    (try go_wp2_with fail)
    go_region
    all_goals (try go_wp2_with fail)
    clear c00 f00 c01 f01 c02 f02 c10 c11 c12
    all_goals
      have LP := (L.putD (by omega) (by first | (simp; done) | (simp; omega)) (ng m) A (zl m) c x9).drew
      unfold put3 at LP
      have k0 := LP.b0.c30
      have k1 := LP.b0.c31
      have k2 := LP.b0.c32
      exact bodyPost_ret (v := .tuple #[.int .i64 k9, .agg #[.bool (ng m), .slice A (zl m) c, .int .i64 x9], .int .i64 0]) (by simp [results, Tryz.results29, go_sem, k0, k1, k2]) rfl ⟨_, rfl, isD_n (LP.getN (by simp)), LP.below⟩
  · have d9 : decide (0 ≤ cm) = true := decide_eq_true hcm
    obtain ⟨r1, r2⟩ := HR.out.2 hcm
    rw [r1, r2]
    clear HR r1 r2
    go_enter Tryz.func29, Tryz.ntmps29
    have L := ((L0.varD (w.heap.size) (by simp) (ng m) A (zl m) c e).varD (w.heap.size + 1) (by simp) false none 0 0 0)
    have c10 := L.tl.b0.c30
    have c11 := L.tl.b0.c31
    have c12 := L.tl.b0.c32
    (try go_wp2_with fail)
    refine (G1.out _ _ (isD_n (m := m) (e := e) (s := .slice A (zl m) c) (L.getN (by simp)))).mono ?_
    rintro e w1 ⟨rfl, be⟩
    clear c10 c11 c12
    replace L := L.step be
    clear be
    have c10 := L.tl.b0.c30
    have c11 := L.tl.b0.c31
    have c12 := L.tl.b0.c32
    (try go_wp2_with fail)
    clear c10 c11 c12
    refine (G2.out _ (L.getN (by simp))).mono ?_
    rintro e9 w' ⟨rfl, rfl⟩
    have hl9 := L.b0.lt
    have c10 := L.tl.b0.c30
    have c11 := L.tl.b0.c31
    have c12 := L.tl.b0.c32
    have LN := L.varD w1.heap.size rfl (ng m) A (zl m) c x9
    have v0 := LN.b0.c30
    have v1 := LN.b0.c31
    have v2 := LN.b0.c32
    have v3 := LN.tl.tl.b0.c30
    have v4 := LN.tl.tl.b0.c31
    have v5 := LN.tl.tl.b0.c32
    go_wp2_with fail
    clear v0 v1 v2 v3 v4 v5
    clear c10 c11 c12
    clear L
    have L := LN
    clear LN
    obtain ⟨g1, hg1⟩ : ∃ g9, w1.heap.size = g9 := ⟨_, rfl⟩
    rw [hg1] at L hl9 ⊢
    clear hg1
    have hl_g1 := hl9
    clear hl9
    refine (G3.out _).mono ?_
    rintro e w2 ⟨v9, rfl, iz, be⟩
    obtain ⟨A2, c2, rfl, _, in9⟩ := iz.form
    replace L := (L.step be).n in9
    clear be iz in9
    have hfd : ∀ W, (Instr.field 26 (.agg #[.bool (ng 3), .slice A2 (zl 3) c2, .int .i64 0]) 0).run Tryz.prog W = .ok (.agg #[.bool (ng 3), .slice A2 (zl 3) c2]) W := fun W => by kernel_rfl
    (try go_wp2_with fail)
    clear hfd
    refine (G4.out _ _ ⟨.slice A2 (zl 3) c2, rfl, L.getN (by simp)⟩).mono ?_
    rintro e w3 ⟨v9, rfl, iz, be⟩
    obtain ⟨A3, c3, rfl, _, in9⟩ := iz.form
    replace L := (L.step be).n in9
    clear be iz in9
    have hl9 := L.b0.lt
    replace L := L.varD w3.heap.size rfl (ng 3) A3 (zl 3) c3 (-1)
    have c00 := L.b0.c30
    have c01 := L.b0.c31
    have c02 := L.b0.c32
    have c10 := L.tl.b0.c30
    have c11 := L.tl.b0.c31
    have c12 := L.tl.b0.c32
    go_wp2_with fail
    clear c00 c01 c02 c10 c11 c12
    obtain ⟨g2, hg2⟩ : ∃ g9, w3.heap.size = g9 := ⟨_, rfl⟩
    rw [hg2] at L hl9 ⊢
    clear hg2
    have hl_g2 := hl9
    clear hl9
    refine (G5.out _ _ _ (isD_n (m := m) (e := x9) (s := .slice A (zl m) c) (L.getN (by simp))) (isD_n (m := 3) (e := (-1)) (s := .slice A3 (zl 3) c3) (L.getN (by simp)))).mono ?_
    rintro e w4 ⟨rfl, be⟩
    replace L := L.step be
    clear be
    replace L := L.swap
    have c00 := L.b0.c30
    have f00 := L.b0.fr 0
    have c01 := L.b0.c31
    have f01 := L.b0.fr 1
    have c02 := L.b0.c32
    have f02 := L.b0.fr 2
    have P := L.set (by omega) (by simp; omega) 2 (.int .i64 y9) (by intro x e; cases e)
    have p0 := P.b0.c30
    have p1 := P.b0.c31
    have p2 := P.b0.c32
    go_wp2_with fail
    replace L := P
    clear P p0 p1 p2
    clear c00 f00 c01 f01 c02 f02
    have n9 : w.heap.size + 1 ≠ g1 := by omega
    have L9 := L.subx (ns' := [(.slice A (zl m) c, m.natAbs)]) (bs' := [(w.heap.size + 1, 26, #[.bool false, .slice none 0 0, .int .i64 0]), (g1, 26, #[.bool (ng m), .slice A (zl m) c, .int .i64 y9])]) (by simp) (by simp)
    clear L
    have L := L9
    clear L9
    have c00 := L.b0.c30
    have f00 := L.b0.fr 0
    have c01 := L.b0.c31
    have f01 := L.b0.fr 1
    have c02 := L.b0.c32
    have f02 := L.b0.fr 2
    have c10 := L.tl.b0.c30
    have c11 := L.tl.b0.c31
    have c12 := L.tl.b0.c32
    (try go_wp2_with fail)
    go_region
    all_goals (try go_wp2_with fail)
    clear c00 f00 c01 f01 c02 f02 c10 c11 c12
    all_goals
      have LP := (L.putD (by omega) (by first | (simp; done) | (simp; omega)) (ng m) A (zl m) c y9).drew
      unfold put3 at LP
      have k0 := LP.b0.c30
      have k1 := LP.b0.c31
      have k2 := LP.b0.c32
      exact bodyPost_ret (v := .tuple #[.int .i64 k8, .agg #[.bool (ng m), .slice A (zl m) c, .int .i64 y9], .int .i64 0]) (by simp [results, Tryz.results29, go_sem, k0, k1, k2]) rfl ⟨_, rfl, isD_n (LP.getN (by simp)), LP.below⟩

section
open Go.ChangeShapes Go.WideShapes Go.ChangeAt

theorem open_slice8 {H : Type} {enc : TypeId × Value → H} {W : World} {base : Nat} {fuel : Nat} {v : Value} {x : DataW H × List MemPlace} (h : DataW.trod enc Tryz.prog W base (fun _ => true) true fuel 22 [v] = some x) : ∃ a n c l, v = .slice a n c ∧ Sl W a n c l := by
  rcases open_ints Tryz.underlying22 Tryz.underlying137 (by kernel_rfl) h with ⟨hcs, _⟩ | ⟨x, l, c, zs, hcs, _, hl, hm, hz, _, hcell, hwz⟩
  · exact ⟨none, 0, 0, [], by simpa using hcs, Sl.nil W⟩
  · exact ⟨_, _, _, _, by simpa using hcs, sl_of_ints hl hm (by simpa using hz) hcell hwz⟩
theorem open_dy {H : Type} {enc : TypeId × Value → H} {W : World} {r : Reach} {b0 base : Nat} {v : Value} {d : DataW H} {p : List MemPlace} (hv : Value.okWide Tryz.prog W r b0 26 v) (h : DataW.Trod enc Tryz.prog W base (fun _ => true) true 26 v d p) :
    ∃ b A n c l e, v = .agg #[.bool b, .slice A n c, .int .i64 e] ∧ Sl W A n c l ∧ -9223372036854775808 ≤ e ∧ e ≤ 9223372036854775807 := by
  obtain ⟨cs, rfl, hsz⟩ := okWide_struct Tryz.underlying26 hv
  obtain ⟨c0, c1, c2, rfl⟩ := Go.Joins.array3 (hsz.trans (show Tryz.prog.cellsOf 26 = 3 by kernel_rfl))
  obtain ⟨fuel, hf⟩ := h
  obtain ⟨y0, y1, n, _, _, h0, h1⟩ := trod_struct2 Tryz.underlying26 hf
  have e0 : Tryz.prog.cellsOf 24 = 2 := by kernel_rfl
  have e1 : Tryz.prog.cellsOf 22 = 1 := by kernel_rfl
  have e3 : Tryz.prog.cellsOf 3 = 1 := by kernel_rfl
  have h0' : DataW.trod enc Tryz.prog W base (fun _ => true) true n 24 [c0, c1] = some y0 := by
    simpa [Value.cells, e0] using h0
  have h1' : DataW.trod enc Tryz.prog W base (fun _ => true) true n 3 [c2] = some y1 := by
    simpa [Value.cells, e3] using h1
  obtain ⟨z0, z1, n2, _, _, g0, g1⟩ := trod_struct2 Tryz.underlying24 h0'
  have e2 : Tryz.prog.cellsOf 4 = 1 := by kernel_rfl
  have g0' : DataW.trod enc Tryz.prog W base (fun _ => true) true n2 4 [c0] = some z0 := by
    simpa [e2] using g0
  have g1' : DataW.trod enc Tryz.prog W base (fun _ => true) true n2 22 [c1] = some z1 := by
    simpa [e1] using g1
  obtain ⟨b, hb, _⟩ := DataW.trod_bool Tryz.underlying4 g0'
  obtain rfl : c0 = .bool b := by simpa using hb
  obtain ⟨A, n3, c3, l, rfl, s1⟩ := open_slice8 g1'
  obtain ⟨e, he, _, hw⟩ := DataW.trod_int Tryz.underlying3 h1'
  obtain rfl : c2 = .int .i64 e := by simpa using he
  obtain ⟨k1, k2⟩ := bounds_i64 hw
  exact ⟨b, A, n3, c3, l, e, rfl, s1, k1, k2⟩

end

end Go.Proofs.YtmlddkiccjpoeaaGreatDoor
