/- The walk of ExponentialPoints: whatever the input, the law returns true and turns nothing that was there. -/
import Derived.Test.YtnnfldkllhdhjaaGreatDoorJO3
import Derived.Test.YtnnfldkllhdhjaaGreatDoorBaseFO
import Derived.Test.YtnnfldkllhdhjaaGreatDoorBaseWO
import Derived.Deep.RegionHeld3
import Derived.Deep.DrawnRows
namespace Go.Proofs.YtnnfldkllhdhjaaGreatDoor
open Go.RowKit
set_option linter.unusedVariables false
set_option linter.unusedSimpArgs false
set_option maxRecDepth 100000
attribute [local go_sem ↓] Go.wp_at_zero Go.wp_at_succ

theorem icm_le9 {m e n f m2 e2 n2 f2 : Int} (h2 : dq m e ≤ dq n2 f2) : icm m e n f m2 e2 n2 f2 ≤ 0 := by
  have h3 : dcm m e n2 f2 ≤ 0 := (dcm_le _ _ _ _).2 h2
  unfold icm
  (repeat' split) <;> omega
theorem icm_meet9 {m e n f m2 e2 n2 f2 : Int} (h1 : dq m2 e2 ≤ dq n f) (h2 : dq m e ≤ dq n2 f2) : icm m e n f m2 e2 n2 f2 = 0 := by
  have h3 : dcm m2 e2 n f ≤ 0 := (dcm_le _ _ _ _).2 h1
  have h4 : dcm m e n2 f2 ≤ 0 := (dcm_le _ _ _ _).2 h2
  have h5 := dcm_swap m2 e2 n f
  unfold icm
  (repeat' split) <;> omega
/-- The interval of the logarithm of 2 as an argument. -/
theorem Cn.arg {T c : Int} {k : Nat} (h : Cn T c k) (hk : k < 200) : ArgX 7 (mkM (loC T) (-(k : Int))) (mkE (loC T) (-(k : Int))) (mkM (hiC T) (-(k : Int))) (mkE (hiC T) (-(k : Int))) := by
  obtain ⟨x1, x2, x3, x4, x5⟩ := np h.al (by omega) (show k ≤ 3000 by omega)
  obtain ⟨y1, y2, y3, y4, y5⟩ := np h.ah (by omega) (show k ≤ 3000 by omega)
  have e8 := dq_anti (a := ((3 : Nat) : Int)) (b := 7) (by omega)
  have hs : ∀ S : Int, AbP S (k + 3) → -dq 1 ((3 : Nat) : Int) ≤ dq S (-(k : Int)) ∧ dq S (-(k : Int)) ≤ dq 1 ((3 : Nat) : Int) := fun S hS => by
    rw [unit_up k 3, ← dq_neg, dq_le_iff, dq_le_iff]
    unfold AbP at hS
    have eP : (((2 : Nat) ^ (k + 3) : Nat) : Int) = 2 ^ (k + 3) := by simp
    rw [← eP]
    omega
  refine ⟨x4, y4, ?_, by omega, by omega, by omega, by omega, ?_, ?_⟩
  · rw [x5, y5]; exact Rat.le_trans h.mid.1 h.mid.2
  · rw [x5]; exact Rat.le_trans (Rat.neg_le_neg e8) (hs _ h.al).1
  · rw [y5]; exact Rat.le_trans (hs _ h.ah).2 e8
theorem points14 {k : Nat} {T1 a1 b1 : Int} (ea : EpA k a1 (dq 1 0)) (eb : EpB k b1 (dq 1 0)) (h : Cn T1 cEx k) : dq (loC T1) (-(k : Int)) ≤ dq b1 (-(k : Int)) ∧ dq a1 (-(k : Int)) ≤ dq (hiC T1) (-(k : Int)) := by
  rw [show dq 1 0 = 1 by decide +kernel] at ea eb
  exact ⟨Rat.le_trans h.lo (e_lo.le eb.2.2), Rat.le_trans (ea.2.2.1.le e_up) h.hi⟩
theorem two14 {k : Nat} {T a b : Int} {x y : Rat} (h : Cn T cLn k) (hx : x = dq (loC T) (-(k : Int))) (hy : y = dq (hiC T) (-(k : Int))) (ea : EpA k a x) (eb : EpB k b y) : dq a (-(k : Int)) ≤ 2 ∧ 2 ≤ dq b (-(k : Int)) := by
  have a0 := (dq_le_iff 0 a (-(k : Int))).2 ea.1
  rw [dq_zero] at a0
  refine ⟨(ea.2.2.1.mono (y := dq (cLn - 1048576) (-500)) (by rw [hx]; exact h.lo) a0).le ln_up, ln_lo.le (eb.2.2.mono (by rw [hy]; exact h.hi))⟩

set_option maxHeartbeats 64000000 in
theorem walk_ExponentialPoints (a0 : Int) (w : World) (h0 : -9223372036854775808 ≤ a0 ∧ a0 ≤ 9223372036854775807) (hT : Tab w) :
    Calls Tryz.prog 9 #[.int .i64 a0] w (fun e w' => e = .returned (.bool true) ∧ Below w.heap.size w w') := by
  have HT := Lib.hid (fun W (hW : Below w.heap.size w W) => hT.mono hW)
  clear hT
  go_enter Tryz.func9, Tryz.ntmps9
  go_wp2_with fail
  have L := (Lq.mk0 w)
  (try go_wp2_with fail)
  refine (awake14_any _ (HT.out _ L.below)).mono ?_
  rintro e9 w1 ⟨rfl, be⟩
  replace L := L.step be
  clear be
  obtain ⟨k, hk⟩ : ∃ r : Nat, a0 % 200 = (r : Int) := ⟨(a0 % 200).toNat, by omega⟩
  have o1 := fun W => mod_any a0 200 W (by omega) (by omega) h0.1 h0.2
  rw [hk] at o1
  have bk : k < 200 := by omega
  have MO1 := Lib.hid o1
  obtain ⟨T1, hT1, C1⟩ := cn_ex bk
  obtain ⟨T2, hT2, C2⟩ := cn_ln bk
  have hX := C2.arg bk
  obtain ⟨sm, _, _, _, _⟩ := hX.all (by omega)
  have z1 := hX.zm
  have z2 := hX.zn
  have b1 := hX.em
  have b2 := hX.en
  have z11 : zl 1 ≤ 1 := zl_c 1 (by decide)
  have dv1 : Dv 1 0 := Or.inr ⟨by decide, by decide +kernel⟩
  have v1 : dq 1 0 = 1 := by decide +kernel
  have q10 : mkM 1 0 = 1 ∧ mkE 1 0 = 0 := by
    have := mk_one14 0 (by omega)
    exact ⟨this.1, this.2.1⟩
  obtain ⟨_, _, _, _, x5⟩ := np C2.al (by omega) (show k ≤ 3000 by omega)
  obtain ⟨_, _, _, _, y5⟩ := np C2.ah (by omega) (show k ≤ 3000 by omega)
  obtain ⟨_, x7, x8, _, x10⟩ := np C1.al (by omega) (show k ≤ 3000 by omega)
  obtain ⟨_, y7, y8, _, y10⟩ := np C1.ah (by omega) (show k ≤ 3000 by omega)
  have g1 := fun W => of14_any 1 1 W (by omega) (by omega)
  rw [q10.1, q10.2] at g1
  have g2 := fun v W h (hW : Below w.heap.size w W) => xexp_yes 1 0 1 0 k v W h (by omega) (by omega) (by omega) (by omega) dv1 dv1 (by decide +kernel) (by omega) (by decide +kernel) (HT.out W hW)
  have g3 := fun W (hW : Below w.heap.size w W) => cex_yes k T1 W (by omega) (HT.out W hW) hT1
  have g4 := fun W (hW : Below w.heap.size w W) => cln_yes k T2 W (by omega) (HT.out W hW) hT2
  have g5 := fun v W h (hW : Below w.heap.size w W) => xexp_yes (mkM (loC T2) (-(k : Int))) (mkE (loC T2) (-(k : Int))) (mkM (hiC T2) (-(k : Int))) (mkE (hiC T2) (-(k : Int))) k v W h (by omega) (by omega) (by omega) (by omega) hX.vm hX.vn sm (by omega) (hX.to200 (by omega)) (HT.out W hW)
  have g6 := fun W => (show Calls Tryz.prog 29 #[.int .i64 2] W (RetP W 2 1) from rofn7_any 2 W (by omega) (by omega))
  have HC := Lib.hid (And.intro C1 (And.intro C2 (And.intro bk (And.intro (And.intro x7 (And.intro x8 x10)) (And.intro y7 (And.intro y8 y10))))))
  obtain ⟨Me, hMe⟩ : ∃ z, mkM (loC T1) (-(k : Int)) = z := ⟨_, rfl⟩
  obtain ⟨Ee, hEe⟩ : ∃ z, mkE (loC T1) (-(k : Int)) = z := ⟨_, rfl⟩
  obtain ⟨Ne, hNe⟩ : ∃ z, mkM (hiC T1) (-(k : Int)) = z := ⟨_, rfl⟩
  obtain ⟨Fe, hFe⟩ : ∃ z, mkE (hiC T1) (-(k : Int)) = z := ⟨_, rfl⟩
  rw [hMe, hEe, hNe, hFe] at g3
  rw [hMe, hEe, hNe, hFe] at HC
  obtain ⟨Ml, hMl⟩ : ∃ z, mkM (loC T2) (-(k : Int)) = z := ⟨_, rfl⟩
  obtain ⟨El, hEl⟩ : ∃ z, mkE (loC T2) (-(k : Int)) = z := ⟨_, rfl⟩
  obtain ⟨Nl, hNl⟩ : ∃ z, mkM (hiC T2) (-(k : Int)) = z := ⟨_, rfl⟩
  obtain ⟨Fl, hFl⟩ : ∃ z, mkE (hiC T2) (-(k : Int)) = z := ⟨_, rfl⟩
  rw [hMl, hEl, hNl, hFl] at g4 g5
  rw [hMl, hEl] at x5
  rw [hNl, hFl] at y5
  have HL := Lib.hid (And.intro x5 y5)
  have G1 := Lib.hid g1
  have G2 := Lib.hid g2
  have G3 := Lib.hid g3
  have G4 := Lib.hid g4
  have G5 := Lib.hid g5
  have G6 := Lib.hid g6
  clear o1 hk bk sm z1 z2 b1 b2 z11 dv1 v1 q10 x5 y5 x7 x8 x10 y7 y8 y10 g1 g2 g3 g4 g5 g6 hMe hEe hNe hFe hMl hEl hNl hFl hX C1 C2
  (try go_wp2_with fail)
  refine (MO1.out _).mono ?_
  rintro e9 w' ⟨rfl, rfl⟩
  (try go_wp2_with fail)
  refine (G1.out _).mono ?_
  rintro e w2 ⟨vv, rfl, ii, be⟩
  obtain ⟨A, c, B, d, rfl, ia, ib⟩ := ii.form
  replace L := ((L.step be).n ib).n ia
  clear be ii ia ib
  (try go_wp2_with fail)
  refine (G2.out _ _ (isI_n (m := 1) (e := 0) (n := 1) (f := 0) (s := .slice A (zl 1) c) (t := .slice B (zl 1) d) (L.getN (by simp)) (L.getN (by simp))) L.below).mono ?_
  intro e9 w3 hr9
  obtain ⟨ap, bp, hap, hbp, vv, rfl, ii, be⟩ := hr9.ab
  obtain ⟨A3, c3, B3, d3, rfl, ia, ib⟩ := ii.form
  replace L := ((L.step be).n ib).n ia
  clear be ii ia ib hr9
  
  obtain ⟨Mp, hMp⟩ : ∃ z, mkM ap (-(k : Int)) = z := ⟨_, rfl⟩
  obtain ⟨Ep, hEp⟩ : ∃ z, mkE ap (-(k : Int)) = z := ⟨_, rfl⟩
  obtain ⟨Np, hNp⟩ : ∃ z, mkM bp (-(k : Int)) = z := ⟨_, rfl⟩
  obtain ⟨Fp, hFp⟩ : ∃ z, mkE bp (-(k : Int)) = z := ⟨_, rfl⟩
  rw [hMp, hNp] at L ⊢
  rw [hEp, hFp]
  have Hap := Lib.hid (And.intro hap (And.intro hbp (And.intro (And.intro hMp hEp) (And.intro hNp hFp))))
  clear hap hbp hMp hEp hNp hFp
  replace L := L.varI w3.heap.size rfl (ng Mp) A3 (zl Mp) c3 Ep (ng Np) B3 (zl Np) d3 Fp
  go_wp2_with fail
  obtain ⟨gp, hgp⟩ : ∃ g9, w3.heap.size = g9 := ⟨_, rfl⟩
  rw [hgp] at L ⊢
  clear hgp
  refine (G3.out _ L.below).mono ?_
  rintro e w4 ⟨vv, rfl, ii, be⟩
  obtain ⟨A4, c4, B4, d4, rfl, ia, ib⟩ := ii.form
  replace L := ((L.step be).n ib).n ia
  clear be ii ia ib
  have hl9 := L.b0.lt
  replace L := L.varI w4.heap.size rfl (ng Me) A4 (zl Me) c4 Ee (ng Ne) B4 (zl Ne) d4 Fe
  go_wp2_with fail
  obtain ⟨ge, hge⟩ : ∃ g9, w4.heap.size = g9 := ⟨_, rfl⟩
  rw [hge] at L hl9 ⊢
  clear hge
  have hl_ge := hl9
  clear hl9
  refine (G4.out _ L.below).mono ?_
  rintro e w5 ⟨vv, rfl, ii, be⟩
  obtain ⟨A5, c5, B5, d5, rfl, ia, ib⟩ := ii.form
  replace L := ((L.step be).n ib).n ia
  clear be ii ia ib
  have hl9 := L.b0.lt
  replace L := L.varI w5.heap.size rfl (ng Ml) A5 (zl Ml) c5 El (ng Nl) B5 (zl Nl) d5 Fl
  have c00 := L.b0.c60
  have c01 := L.b0.c61
  have c02 := L.b0.c62
  have c03 := L.b0.c63
  have c04 := L.b0.c64
  have c05 := L.b0.c65
  go_wp2_with fail
  clear c00 c01 c02 c03 c04 c05
  obtain ⟨gl, hgl⟩ : ∃ g9, w5.heap.size = g9 := ⟨_, rfl⟩
  rw [hgl] at L hl9 ⊢
  clear hgl
  have hl_gl := hl9
  clear hl9
  refine (G5.out _ _ (isI_n (m := Ml) (e := El) (n := Nl) (f := Fl) (s := .slice A5 (zl Ml) c5) (t := .slice B5 (zl Nl) d5) (L.getN (by simp)) (L.getN (by simp))) L.below).mono ?_
  intro e9 w6 hr9
  obtain ⟨aq, bq, haq, hbq, vv, rfl, ii, be⟩ := hr9.ab
  obtain ⟨A6, c6, B6, d6, rfl, ia, ib⟩ := ii.form
  replace L := ((L.step be).n ib).n ia
  clear be ii ia ib hr9
  have hl9 := L.b0.lt
  obtain ⟨Mq, hMq⟩ : ∃ z, mkM aq (-(k : Int)) = z := ⟨_, rfl⟩
  obtain ⟨Eq, hEq⟩ : ∃ z, mkE aq (-(k : Int)) = z := ⟨_, rfl⟩
  obtain ⟨Nq, hNq⟩ : ∃ z, mkM bq (-(k : Int)) = z := ⟨_, rfl⟩
  obtain ⟨Fq, hFq⟩ : ∃ z, mkE bq (-(k : Int)) = z := ⟨_, rfl⟩
  rw [hMq, hNq] at L ⊢
  rw [hEq, hFq]
  have Haq := Lib.hid (And.intro haq (And.intro hbq (And.intro (And.intro hMq hEq) (And.intro hNq hFq))))
  clear haq hbq hMq hEq hNq hFq
  replace L := L.varI w6.heap.size rfl (ng Mq) A6 (zl Mq) c6 Eq (ng Nq) B6 (zl Nq) d6 Fq
  go_wp2_with fail
  obtain ⟨gq, hgq⟩ : ∃ g9, w6.heap.size = g9 := ⟨_, rfl⟩
  rw [hgq] at L hl9 ⊢
  clear hgq
  obtain ⟨C1, C2, bk, ⟨x7, x8, x10⟩, y7, y8, y10⟩ := HC.out
  obtain ⟨eap, ebp, ⟨hMp, hEp⟩, hNp, hFp⟩ := Hap.out
  obtain ⟨eaq, ebq, ⟨hMq, hEq⟩, hNq, hFq⟩ := Haq.out
  obtain ⟨p1, p2⟩ := points14 eap ebp C1
  obtain ⟨q1, q2⟩ := two14 C2 HL.out.1 HL.out.2 eaq ebq
  obtain ⟨u1, u2, u3, u4, u5⟩ := np eap.2.1 (by omega) (show k ≤ 3000 by omega)
  obtain ⟨v1, v2, v3, v4, v5⟩ := np ebp.1 (by omega) (show k ≤ 3000 by omega)
  obtain ⟨u6, u7, u8, u9, u10⟩ := np eaq.2.1 (by omega) (show k ≤ 3000 by omega)
  obtain ⟨v6, v7, v8, v9, v10⟩ := np ebq.1 (by omega) (show k ≤ 3000 by omega)
  rw [hMp, hEp] at u5
  rw [hMp] at u2
  rw [hEp] at u3
  rw [hNp, hFp] at v5
  rw [hNp] at v2
  rw [hFp] at v3
  rw [hMq, hEq] at u10
  rw [hMq] at u7
  rw [hEq] at u8
  rw [hNq, hFq] at v10
  rw [hNq] at v7
  rw [hFq] at v8
  have g7 : ∀ v u W, IsI W v Mp Ep Np Fp → IsI W u Me Ee Ne Fe → Calls Tryz.prog 27 #[v, u] W (RetI W 0) := fun v u W h k9 => by
    have s := r10cmp_any _ _ _ _ _ _ _ _ v u W h k9 (by omega) (by omega) (by omega) (by omega) (by omega) (by omega) (by omega) (by omega)
    rwa [icm_meet9 (by rw [x10, v5]; exact p1) (by rw [u5, y10]; exact p2)] at s
  have g8 : ∀ v u W, IsI W v Mq Eq Nq Fq → IsP W u 2 1 → Calls Tryz.prog 28 #[v, u] W (RetB W true) := fun v u W h k9 => by
    have s := r10has_any _ _ _ _ 2 1 v u W h k9 (by omega) (by omega) (by omega) (by omega) (Nat.le_trans (zl_c 2 (by decide)) (by omega)) (Nat.le_trans (len_le1 (by decide)) (by omega))
    rwa [(hasB_iff _ _ _ _ _ _ (by omega)).2 ⟨by rw [u10]; exact q1, by rw [v10]; exact q2⟩] at s
  have G7 := Lib.hid g7
  have G8 := Lib.hid g8
  clear g7 g8 C1 C2 bk x7 x8 x10 y7 y8 y10 eap ebp hMp hEp hNp hFp eaq ebq hMq hEq hNq hFq p1 p2 q1 q2 u1 u2 u3 u4 u5 v1 v2 v3 v4 v5 u6 u7 u8 u9 u10 v6 v7 v8 v9 v10
  replace L := L.drew
  have c00 := L.b0.c60
  have c01 := L.b0.c61
  have c02 := L.b0.c62
  have c03 := L.b0.c63
  have c04 := L.b0.c64
  have c05 := L.b0.c65
  have c20 := L.tl.tl.b0.c60
  have c21 := L.tl.tl.b0.c61
  have c22 := L.tl.tl.b0.c62
  have c23 := L.tl.tl.b0.c63
  have c24 := L.tl.tl.b0.c64
  have c25 := L.tl.tl.b0.c65
  have c30 := L.tl.tl.tl.b0.c60
  have c31 := L.tl.tl.tl.b0.c61
  have c32 := L.tl.tl.tl.b0.c62
  have c33 := L.tl.tl.tl.b0.c63
  have c34 := L.tl.tl.tl.b0.c64
  have c35 := L.tl.tl.tl.b0.c65
  go_region_held3 (fun w' => w'.cell? ⟨gp, 0, none⟩ = some (.bool (ng Mp)) ∧ w'.cell? ⟨gp, 1, none⟩ = some (.slice A3 (zl Mp) c3) ∧ w'.cell? ⟨gp, 2, none⟩ = some (.int .i64 Ep) ∧ w'.cell? ⟨gp, 3, none⟩ = some (.bool (ng Np)) ∧ w'.cell? ⟨gp, 4, none⟩ = some (.slice B3 (zl Np) d3) ∧ w'.cell? ⟨gp, 5, none⟩ = some (.int .i64 Fp) ∧ w'.cell? ⟨ge, 0, none⟩ = some (.bool (ng Me)) ∧ w'.cell? ⟨ge, 1, none⟩ = some (.slice A4 (zl Me) c4) ∧ w'.cell? ⟨ge, 2, none⟩ = some (.int .i64 Ee) ∧ w'.cell? ⟨ge, 3, none⟩ = some (.bool (ng Ne)) ∧ w'.cell? ⟨ge, 4, none⟩ = some (.slice B4 (zl Ne) d4) ∧ w'.cell? ⟨ge, 5, none⟩ = some (.int .i64 Fe) ∧ w'.cell? ⟨gq, 0, none⟩ = some (.bool (ng Mq)) ∧ w'.cell? ⟨gq, 1, none⟩ = some (.slice A6 (zl Mq) c6) ∧ w'.cell? ⟨gq, 2, none⟩ = some (.int .i64 Eq) ∧ w'.cell? ⟨gq, 3, none⟩ = some (.bool (ng Nq)) ∧ w'.cell? ⟨gq, 4, none⟩ = some (.slice B6 (zl Nq) d6) ∧ w'.cell? ⟨gq, 5, none⟩ = some (.int .i64 Fq)) (first | (with_reducible exact ⟨L.tl.tl.tl.b0.c60, L.tl.tl.tl.b0.c61, L.tl.tl.tl.b0.c62, L.tl.tl.tl.b0.c63, L.tl.tl.tl.b0.c64, L.tl.tl.tl.b0.c65, L.tl.tl.b0.c60, L.tl.tl.b0.c61, L.tl.tl.b0.c62, L.tl.tl.b0.c63, L.tl.tl.b0.c64, L.tl.tl.b0.c65, L.b0.c60, L.b0.c61, L.b0.c62, L.b0.c63, L.b0.c64, L.b0.c65⟩) | exact ⟨L.tl.tl.tl.b0.c60, L.tl.tl.tl.b0.c61, L.tl.tl.tl.b0.c62, L.tl.tl.tl.b0.c63, L.tl.tl.tl.b0.c64, L.tl.tl.tl.b0.c65, L.tl.tl.b0.c60, L.tl.tl.b0.c61, L.tl.tl.b0.c62, L.tl.tl.b0.c63, L.tl.tl.b0.c64, L.tl.tl.b0.c65, L.b0.c60, L.b0.c61, L.b0.c62, L.b0.c63, L.b0.c64, L.b0.c65⟩) (first | (go_at_call 27; (with_reducible refine (G7.out _ _ _ ?_ ?_).mono ?_); (· (refine isI_n (L.getN ?_) (L.getN ?_); all_goals (repeat (first | (with_reducible exact List.mem_cons_self) | apply List.mem_cons_of_mem)))); (· (refine isI_n (L.getN ?_) (L.getN ?_); all_goals (repeat (first | (with_reducible exact List.mem_cons_self) | apply List.mem_cons_of_mem)))); rintro e wh ⟨rfl, be⟩; replace L := L.step be; clear be) | (go_at_call 29; (with_reducible refine (G6.out _).mono ?_); rintro e wh ⟨vh, rfl, iq, be⟩; replace L := (L.step be).q iq; clear be iq) | (go_at_call 28; (with_reducible refine (G8.out _ _ _ ?_ ?_).mono ?_); (· (refine isI_n (L.getN ?_) (L.getN ?_); all_goals (repeat (first | (with_reducible exact List.mem_cons_self) | apply List.mem_cons_of_mem)))); (· (refine L.getQ ?_; (repeat (first | (with_reducible exact List.mem_cons_self) | apply List.mem_cons_of_mem)))); rintro e wh ⟨rfl, be⟩; replace L := L.step be; clear be))
  (try go_wp2_with fail)
  (try go_ret)
  exact ⟨rfl, L.below⟩

end Go.Proofs.YtnnfldkllhdhjaaGreatDoor
