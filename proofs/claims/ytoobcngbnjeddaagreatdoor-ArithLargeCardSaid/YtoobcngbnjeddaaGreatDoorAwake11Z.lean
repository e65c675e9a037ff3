/- The sanity check of layer 11: the examples of chapter 11 hold. -/
import Derived.Test.YtoobcngbnjeddaaGreatDoorMillArZ
import Derived.Test.YtoobcngbnjeddaaGreatDoorBaseXZ
import Derived.Test.YtoobcngbnjeddaaGreatDoorArPHZ
import Derived.Test.YtoobcngbnjeddaaGreatDoorBaseF
import Derived.Deep.RegionHeld3
import Derived.Deep.DrawnRows
namespace Go.Proofs.YtoobcngbnjeddaaGreatDoor
open Go.RowKit
set_option linter.unusedVariables false
set_option linter.unusedSimpArgs false
set_option maxRecDepth 100000
attribute [local go_sem ↓] Go.wp_at_zero Go.wp_at_succ

theorem of_1 : mkM 1 0 = 1 ∧ mkE 1 0 = 0 := mk_odd11 (M := 1) (z := 0) (by decide) (by decide) (by decide) (by decide) (by decide)
theorem of_2 : mkM 2 0 = 1 ∧ mkE 2 0 = 1 := mk_odd11 (M := 1) (z := 1) (by decide) (by decide) (by decide) (by decide) (by decide)
theorem of_3 : mkM 3 0 = 3 ∧ mkE 3 0 = 0 := mk_odd11 (M := 3) (z := 0) (by decide) (by decide) (by decide) (by decide) (by decide)
theorem of_4 : mkM 4 0 = 1 ∧ mkE 4 0 = 2 := mk_odd11 (M := 1) (z := 2) (by decide) (by decide) (by decide) (by decide) (by decide)
theorem of_8 : mkM 8 0 = 1 ∧ mkE 8 0 = 3 := mk_odd11 (M := 1) (z := 3) (by decide) (by decide) (by decide) (by decide) (by decide)
theorem of_m1 : mkM (-1) 0 = -1 ∧ mkE (-1) 0 = 0 := mk_odd11 (M := -1) (z := 0) (by decide) (by decide) (by decide) (by decide) (by decide)
theorem of_m4 : mkM (-4) 0 = -1 ∧ mkE (-4) 0 = 2 := mk_odd11 (M := -1) (z := 2) (by decide) (by decide) (by decide) (by decide) (by decide)
theorem dq_leD {m e n f : Int} (h : dcm m e n f ≤ 0) : dq m e ≤ dq n f := (dcm_le _ _ _ _).1 h
theorem mul_ex_lo : min4 (dq (-1) 0 * dq 3 0) (dq (-1) 0 * dq 1 2) (dq 1 1 * dq 3 0) (dq 1 1 * dq 1 2) = dq (-1) 2 := by
  rw [← dq_mul, ← dq_mul, ← dq_mul, ← dq_mul]
  refine Rat.le_antisymm (min4_le _ _ _ _).2.1 (le_min4 ?_ Rat.le_refl ?_ ?_) <;> exact dq_leD (by decide)
theorem mul_ex_hi : max4 (dq (-1) 0 * dq 3 0) (dq (-1) 0 * dq 1 2) (dq 1 1 * dq 3 0) (dq 1 1 * dq 1 2) = dq 1 3 := by
  rw [← dq_mul, ← dq_mul, ← dq_mul, ← dq_mul]
  refine Rat.le_antisymm (max4_le ?_ ?_ ?_ Rat.le_refl) (le_max4 _ _ _ _).2.2.2 <;> exact dq_leD (by decide)
theorem cut_ex1 : cutQ (dq (-1) 2) 0 = -4 := cutD_up 2 (by decide)
theorem cut_ex2 : -(cutQ (-(dq 1 3)) 0) = 8 := by
  rw [← dq_neg, show cutQ (dq (-1) 3) 0 = -1 * 2 ^ 3 from cutD_up 3 (by decide)]
  rfl
theorem retEn_ex (W : World) : RetEn W (dq (-1) 2) (dq 1 3) 0 = RetIE W (-1) 2 1 3 0 := by
  have z4 : zl (-4) ≤ 6 := zl_small (by decide)
  have z8 : zl 8 ≤ 6 := zl_small (by decide)
  rw [RetEn.ok (z := 6) (by decide) (by rw [cut_ex1]; omega) (by rw [cut_ex2]; omega) (by omega) (dq_leD (by decide)) W]
  unfold enM enE upM upE
  rw [cut_ex1, cut_ex2, show -(0 : Int) = 0 from rfl, of_m4.1, of_m4.2, of_8.1, of_8.2]
theorem dv1_ex (W : World) : RetDv W 1 0 1 0 0 0 1 0 5 = RetIE W 0 0 0 0 5 := by
  unfold RetDv
  rw [if_pos (by decide), if_neg (by decide)]
theorem dv2_ex (W : World) : RetDv W 1 0 1 0 0 0 0 0 5 = RetIE W 0 0 0 0 2 := by
  unfold RetDv
  rw [if_pos (by decide), if_pos rfl, if_pos (by decide)]

set_option maxHeartbeats 16000000 in
theorem awake11_any (w : World) (hT : Tab w) :
    Calls Tryz.prog 9 #[] w (RetB w true) := by
  have o11 := fun W => of11_any (1) 1 W (by omega) (by omega)
  rw [of_1.1, of_1.2] at o11
  have O11 := Lib.hid o11
  clear o11
  have o01 := fun W => of11_any (0) 1 W (by omega) (by omega)
  rw [of_0.1, of_0.2, of_1.1, of_1.2] at o01
  have O01 := Lib.hid o01
  clear o01
  have o00 := fun W => of11_any (0) 0 W (by omega) (by omega)
  rw [of_0.1, of_0.2] at o00
  have O00 := Lib.hid o00
  clear o00
  have oa2 := fun W => of11_any (-1) 2 W (by omega) (by omega)
  rw [of_m1.1, of_m1.2, of_2.1, of_2.2] at oa2
  have Oa2 := Lib.hid oa2
  clear oa2
  have o34 := fun W => of11_any (3) 4 W (by omega) (by omega)
  rw [of_3.1, of_3.2, of_4.1, of_4.2] at o34
  have O34 := Lib.hid o34
  clear o34
  have ob8 := fun W => of11_any (-4) 8 W (by omega) (by omega)
  rw [of_m4.1, of_m4.2, of_8.1, of_8.2] at ob8
  have Ob8 := Lib.hid ob8
  clear ob8
  have z0 : zl 0 ≤ 25 := Nat.le_trans zl0 (by omega)
  have z1 : zl 1 ≤ 25 := Nat.le_trans (zl_small (by decide)) (by omega)
  have z3 : zl 3 ≤ 25 := Nat.le_trans (zl_small (by decide)) (by omega)
  have zm : zl (-1) ≤ 25 := Nat.le_trans (zl_small (by decide)) (by omega)
  have HT := Lib.hid (fun W (hW : Below w.heap.size w W) => hT.mono hW)
  have q1 := fun W => (show Calls Tryz.prog 42 #[.int .i64 1] W (RetP W 1 1) from rofn7_any 1 W (by omega) (by omega))
  have q3 := fun W => (show Calls Tryz.prog 42 #[.int .i64 3] W (RetP W 3 1) from rofn7_any 3 W (by omega) (by omega))
  have l1 := len_le1 (show 1 < 4294967296 by omega)
  have dv := fun v u W h1 h2 => rdiv7_any 1 1 3 1 v u W h1 h2 (by omega) (by omega) (by omega) (by omega) (by omega) (by omega)
  obtain ⟨s1, s2⟩ := qt_low (m := 1 * ((1 : Nat) : Int)) (n := ((1 : Nat) : Int) * 3) (by omega)
  rw [show (1 : Int) * ((1 : Nat) : Int) = 1 from rfl, show ((1 : Nat) : Int) * 3 = 3 from rfl] at dv s1 s2
  have s3 := Rat.den_pos (Rat.divInt 1 3)
  obtain ⟨a, ha⟩ : ∃ x, (Rat.divInt 1 3).num = x := ⟨_, rfl⟩
  obtain ⟨d, hd⟩ : ∃ x, (Rat.divInt 1 3).den = x := ⟨_, rfl⟩
  rw [ha] at dv s1
  rw [hd] at dv s2 s3
  have c1 := zl_cut a d s3 2
  have c2 := zl_cut (-a) d s3 2
  have c3 := zl_neg a
  rw [← Rat.neg_divInt] at c2
  have c4 := zl_neg (cutQ (-(Rat.divInt a (d : Int))) 2)
  obtain ⟨M, E, N, G, hen, b1, b2, hr9⟩ := RetEn.sure (lo := Rat.divInt a (d : Int)) (hi := Rat.divInt a (d : Int)) (k := 2) (z := 60) (by decide) (by omega) (by omega) (by omega) Rat.le_refl
  have cp := fun v W h (hW : Below w.heap.size w W) => aconst_any a d 2 v W h (by omega) (by omega) s3 (by omega) (by omega) (HT.out W hW)
  have cr := fun v W h => rconst_any a d 2 v W h (by omega) (by omega) s3 (by omega) (by omega)
  simp only [hen] at cp cr
  have bd0 : -3000 ≤ (0 : Int) ∧ (0 : Int) ≤ 3000 := by omega
  have bd1 : -3000 ≤ (1 : Int) ∧ (1 : Int) ≤ 3000 := by omega
  have bd2 : -3000 ≤ (2 : Int) ∧ (2 : Int) ≤ 3000 := by omega
  have d1 := fun v u W h1 h2 (hW : Below w.heap.size w W) => adiv_any 1 0 1 0 0 0 1 0 5 v u W h1 h2 z1 z1 z0 z1 bd0 bd0 bd0 bd0 (by decide) (by decide) (by omega) (by omega) (HT.out W hW)
  simp only [dv1_ex] at d1
  have d2 := fun v u W h1 h2 (hW : Below w.heap.size w W) => adiv_any 1 0 1 0 0 0 0 0 5 v u W h1 h2 z1 z1 z0 z0 bd0 bd0 bd0 bd0 (by decide) (by decide) (by omega) (by omega) (HT.out W hW)
  simp only [dv2_ex] at d2
  have mu := fun v u W h1 h2 (hW : Below w.heap.size w W) => amul_any (-1) 0 1 1 3 0 1 2 0 v u W h1 h2 zm z1 z3 z1 bd0 bd1 bd0 bd2 (by decide) (by decide) (by omega) (by omega) (HT.out W hW)
  simp only [mul_ex_lo, mul_ex_hi, retEn_ex] at mu
  have sm := (fun v u W h1 h2 => (show Calls Tryz.prog 20 #[v, u] W (RetB W true) from by have s := r10same_any M E N G M E N G v u W h1 h2 (by omega) (by omega) (by omega) (by omega) (by omega) (by omega) (by omega) (by omega); rwa [show ((decide ((E : Int) = E) && decide ((M : Int) = M)) && (decide ((G : Int) = G) && decide ((N : Int) = N))) = true from by simp] at s))
  have sp := (fun v u W h1 h2 => (show Calls Tryz.prog 20 #[v, u] W (RetB W true) from by have s := r10same_any (-1) 2 1 3 (-1) 2 1 3 v u W h1 h2 (by omega) (by omega) (by omega) (by omega) (by omega) (by omega) (by omega) (by omega); rwa [show ((decide ((2 : Int) = 2) && decide (((-1) : Int) = (-1))) && (decide ((3 : Int) = 3) && decide ((1 : Int) = 1))) = true from by simp] at s))
  have Q1 := Lib.hid q1
  have Q3 := Lib.hid q3
  have DV := Lib.hid dv
  have CP := Lib.hid cp
  have CR := Lib.hid cr
  have DA := Lib.hid d1
  have DB := Lib.hid d2
  have MU := Lib.hid mu
  have SM := Lib.hid sm
  have SP := Lib.hid sp
  clear q1 q3 dv cp cr d1 d2 mu sm sp z0 z1 z3 zm l1 s1 s2 s3 ha hd c1 c2 c3 c4 hen b1 b2 hr9 bd0 bd1 bd2 hT
  go_enter Tryz.func9, Tryz.ntmps9
  go_wp2_with fail
  have L := Lq.mk0 w
  (try go_wp2_with fail)
  refine (Q1.out _).mono ?_
  rintro e w1 ⟨vq, rfl, iq, be⟩
  obtain ⟨A1, c1, B1, k1, rfl, _, _, _⟩ := iq.form
  replace L := (L.step be).q iq
  clear be iq
  (try go_wp2_with fail)
  refine (Q3.out _).mono ?_
  rintro e w2 ⟨vq, rfl, iq, be⟩
  obtain ⟨A2, c2, B2, k2, rfl, _, _, _⟩ := iq.form
  replace L := (L.step be).q iq
  clear be iq
  (try go_wp2_with fail)
  refine (DV.out _ _ _ (L.getQ (v := .agg #[.bool (ng 1), .slice A1 (zl 1) c1, .slice B1 (len 1) k1]) (by simp)) (L.getQ (v := .agg #[.bool (ng 3), .slice A2 (zl 3) c2, .slice B2 (len 1) k2]) (by simp))).mono ?_
  rintro e w3 ⟨vq, rfl, iq, be⟩
  obtain ⟨A3, c3, B3, k3, rfl, _, _, _⟩ := iq.form
  replace L := (L.step be).q iq
  clear be iq
  replace L := L.varQ w3.heap.size rfl (ng a) A3 B3 (zl a) c3 (len d) k3
  have cel00 := L.b0.c30
  have cel01 := L.b0.c31
  have cel02 := L.b0.c32
  go_wp2_with fail
  obtain ⟨g3, hg⟩ : ∃ g, w3.heap.size = g := ⟨_, rfl⟩
  rw [hg] at L cel00 cel01 cel02 ⊢
  clear hg
  refine (CP.out _ _ (L.getQ (v := .agg #[.bool (ng a), .slice A3 (zl a) c3, .slice B3 (len d) k3]) (a := a) (d := d) (by simp)) L.below).mono ?_
  rintro e w4 ⟨vv, rfl, ii, be⟩
  clear cel00 cel01 cel02
  obtain ⟨A4, c4, B4, d4, rfl, ia, ib⟩ := ii.form
  replace L := ((L.step be).n ib).n ia
  clear be ii ia ib
  have hlg4 := L.b0.lt
  replace L := L.varI w4.heap.size rfl (ng M) A4 (zl M) c4 E (ng N) B4 (zl N) d4 G
  have cel00 := L.b0.c60
  have cel01 := L.b0.c61
  have cel02 := L.b0.c62
  have cel03 := L.b0.c63
  have cel04 := L.b0.c64
  have cel05 := L.b0.c65
  go_wp2_with fail
  obtain ⟨g4, hg⟩ : ∃ g, w4.heap.size = g := ⟨_, rfl⟩
  rw [hg] at L hlg4 cel00 cel01 cel02 cel03 cel04 cel05 ⊢
  clear hg
  refine (O11.out _).mono ?_
  rintro e w5 ⟨v11, rfl, ii, be⟩
  clear cel00 cel01 cel02 cel03 cel04 cel05
  obtain ⟨A11, c11, B11, d11, rfl, ia, ib⟩ := ii.form
  replace L := ((L.step be).n ia).n ib
  clear ii be ia ib
  (try go_wp2_with fail)
  refine (O01.out _).mono ?_
  rintro e w6 ⟨v12, rfl, ii, be⟩
  obtain ⟨A12, c12, B12, d12, rfl, ia, ib⟩ := ii.form
  replace L := ((L.step be).n ia).n ib
  clear ii be ia ib
  (try go_wp2_with fail)
  refine (DA.out _ _ _ (isI_n (m := 1) (e := 0) (n := 1) (f := 0) (s := .slice A11 (zl 1) c11) (t := .slice B11 (zl 1) d11) (L.getN (by simp)) (L.getN (by simp))) (isI_n (m := 0) (e := 0) (n := 1) (f := 0) (s := .slice A12 (zl 0) c12) (t := .slice B12 (zl 1) d12) (L.getN (by simp)) (L.getN (by simp))) L.below).mono ?_
  rintro e w7 ⟨vv, rfl, ii, be⟩
  obtain ⟨A5, c5, B5, d5, rfl, ia, ib⟩ := ii.form
  replace L := ((L.step be).n ib).n ia
  clear be ii ia ib
  have hlg5 := L.b0.lt
  replace L := L.varI w7.heap.size rfl (ng 0) A5 (zl 0) c5 0 (ng 0) B5 (zl 0) d5 0
  have cel00 := L.b0.c60
  have cel01 := L.b0.c61
  have cel02 := L.b0.c62
  have cel03 := L.b0.c63
  have cel04 := L.b0.c64
  have cel05 := L.b0.c65
  go_wp2_with fail
  obtain ⟨g5, hg⟩ : ∃ g, w7.heap.size = g := ⟨_, rfl⟩
  rw [hg] at L hlg5 cel00 cel01 cel02 cel03 cel04 cel05 ⊢
  clear hg
  refine (O11.out _).mono ?_
  rintro e w8 ⟨v13, rfl, ii, be⟩
  clear cel00 cel01 cel02 cel03 cel04 cel05
  obtain ⟨A13, c13, B13, d13, rfl, ia, ib⟩ := ii.form
  replace L := ((L.step be).n ia).n ib
  clear ii be ia ib
  (try go_wp2_with fail)
  refine (O00.out _).mono ?_
  rintro e w9 ⟨v14, rfl, ii, be⟩
  obtain ⟨A14, c14, B14, d14, rfl, ia, ib⟩ := ii.form
  replace L := ((L.step be).n ia).n ib
  clear ii be ia ib
  (try go_wp2_with fail)
  refine (DB.out _ _ _ (isI_n (m := 1) (e := 0) (n := 1) (f := 0) (s := .slice A13 (zl 1) c13) (t := .slice B13 (zl 1) d13) (L.getN (by simp)) (L.getN (by simp))) (isI_n (m := 0) (e := 0) (n := 0) (f := 0) (s := .slice A14 (zl 0) c14) (t := .slice B14 (zl 0) d14) (L.getN (by simp)) (L.getN (by simp))) L.below).mono ?_
  rintro e w10 ⟨vv, rfl, ii, be⟩
  obtain ⟨A6, c6, B6, d6, rfl, ia, ib⟩ := ii.form
  replace L := ((L.step be).n ib).n ia
  clear be ii ia ib
  have hlg6 := L.b0.lt
  replace L := L.varI w10.heap.size rfl (ng 0) A6 (zl 0) c6 0 (ng 0) B6 (zl 0) d6 0
  have cel00 := L.b0.c60
  have cel01 := L.b0.c61
  have cel02 := L.b0.c62
  have cel03 := L.b0.c63
  have cel04 := L.b0.c64
  have cel05 := L.b0.c65
  go_wp2_with fail
  obtain ⟨g6, hg⟩ : ∃ g, w10.heap.size = g := ⟨_, rfl⟩
  rw [hg] at L hlg6 cel00 cel01 cel02 cel03 cel04 cel05 ⊢
  clear hg
  refine (Oa2.out _).mono ?_
  rintro e w11 ⟨v15, rfl, ii, be⟩
  clear cel00 cel01 cel02 cel03 cel04 cel05
  obtain ⟨A15, c15, B15, d15, rfl, ia, ib⟩ := ii.form
  replace L := ((L.step be).n ia).n ib
  clear ii be ia ib
  (try go_wp2_with fail)
  refine (O34.out _).mono ?_
  rintro e w12 ⟨v16, rfl, ii, be⟩
  obtain ⟨A16, c16, B16, d16, rfl, ia, ib⟩ := ii.form
  replace L := ((L.step be).n ia).n ib
  clear ii be ia ib
  (try go_wp2_with fail)
  refine (MU.out _ _ _ (isI_n (m := (-1)) (e := 0) (n := 1) (f := 1) (s := .slice A15 (zl (-1)) c15) (t := .slice B15 (zl 1) d15) (L.getN (by simp)) (L.getN (by simp))) (isI_n (m := 3) (e := 0) (n := 1) (f := 2) (s := .slice A16 (zl 3) c16) (t := .slice B16 (zl 1) d16) (L.getN (by simp)) (L.getN (by simp))) L.below).mono ?_
  rintro e w13 ⟨vv, rfl, ii, be⟩
  obtain ⟨A7, c7, B7, d7, rfl, ia, ib⟩ := ii.form
  replace L := ((L.step be).n ib).n ia
  clear be ii ia ib
  have hlg7 := L.b0.lt
  replace L := L.varI w13.heap.size rfl (ng (-1)) A7 (zl (-1)) c7 2 (ng 1) B7 (zl 1) d7 3
  have cel00 := L.b0.c60
  have cel01 := L.b0.c61
  have cel02 := L.b0.c62
  have cel03 := L.b0.c63
  have cel04 := L.b0.c64
  have cel05 := L.b0.c65
  have cel40 := L.tl.tl.tl.tl.b0.c30
  have cel41 := L.tl.tl.tl.tl.b0.c31
  have cel42 := L.tl.tl.tl.tl.b0.c32
  go_wp2_with fail
  obtain ⟨g7, hg⟩ : ∃ g, w13.heap.size = g := ⟨_, rfl⟩
  rw [hg] at L hlg7 cel00 cel01 cel02 cel03 cel04 cel05 ⊢
  clear hg
  refine (CR.out _ _ (L.getQ (v := .agg #[.bool (ng a), .slice A3 (zl a) c3, .slice B3 (len d) k3]) (a := a) (d := d) (by simp))).mono ?_
  rintro e w14 ⟨vv, rfl, ii, be⟩
  clear cel00 cel01 cel02 cel03 cel04 cel05 cel40 cel41 cel42
  obtain ⟨A8, c8, B8, d8, rfl, ia, ib⟩ := ii.form
  replace L := ((L.step be).n ib).n ia
  clear be ii ia ib
  have hlg8 := L.b0.lt
  replace L := L.varI w14.heap.size rfl (ng M) A8 (zl M) c8 E (ng N) B8 (zl N) d8 G
  have cel00 := L.b0.c60
  have cel01 := L.b0.c61
  have cel02 := L.b0.c62
  have cel03 := L.b0.c63
  have cel04 := L.b0.c64
  have cel05 := L.b0.c65
  have cel10 := L.tl.b0.c60
  have cel11 := L.tl.b0.c61
  have cel12 := L.tl.b0.c62
  have cel13 := L.tl.b0.c63
  have cel14 := L.tl.b0.c64
  have cel15 := L.tl.b0.c65
  have cel40 := L.tl.tl.tl.tl.b0.c60
  have cel41 := L.tl.tl.tl.tl.b0.c61
  have cel42 := L.tl.tl.tl.tl.b0.c62
  have cel43 := L.tl.tl.tl.tl.b0.c63
  have cel44 := L.tl.tl.tl.tl.b0.c64
  have cel45 := L.tl.tl.tl.tl.b0.c65
  go_wp2_with fail
  obtain ⟨g8, hg⟩ : ∃ g, w14.heap.size = g := ⟨_, rfl⟩
  rw [hg] at L hlg8 cel00 cel01 cel02 cel03 cel04 cel05 ⊢
  clear hg
  replace L := L.drew
  clear cel00 cel01 cel02 cel03 cel04 cel05 cel10 cel11 cel12 cel13 cel14 cel15 cel40 cel41 cel42 cel43 cel44 cel45
  have cel00 := L.b0.c60
  have cel01 := L.b0.c61
  have cel02 := L.b0.c62
  have cel03 := L.b0.c63
  have cel04 := L.b0.c64
  have cel05 := L.b0.c65
  have cel10 := L.tl.b0.c60
  have cel11 := L.tl.b0.c61
  have cel12 := L.tl.b0.c62
  have cel13 := L.tl.b0.c63
  have cel14 := L.tl.b0.c64
  have cel15 := L.tl.b0.c65
  have cel40 := L.tl.tl.tl.tl.b0.c60
  have cel41 := L.tl.tl.tl.tl.b0.c61
  have cel42 := L.tl.tl.tl.tl.b0.c62
  have cel43 := L.tl.tl.tl.tl.b0.c63
  have cel44 := L.tl.tl.tl.tl.b0.c64
  have cel45 := L.tl.tl.tl.tl.b0.c65
  go_region_held3 (fun w' => w'.cell? ⟨g8, 0, none⟩ = some (.bool (ng M)) ∧ w'.cell? ⟨g8, 1, none⟩ = some (.slice A8 (zl M) c8) ∧ w'.cell? ⟨g8, 2, none⟩ = some (.int .i64 E) ∧ w'.cell? ⟨g8, 3, none⟩ = some (.bool (ng N)) ∧ w'.cell? ⟨g8, 4, none⟩ = some (.slice B8 (zl N) d8) ∧ w'.cell? ⟨g8, 5, none⟩ = some (.int .i64 G) ∧ w'.cell? ⟨g7, 0, none⟩ = some (.bool (ng (-1))) ∧ w'.cell? ⟨g7, 1, none⟩ = some (.slice A7 (zl (-1)) c7) ∧ w'.cell? ⟨g7, 2, none⟩ = some (.int .i64 2) ∧ w'.cell? ⟨g7, 3, none⟩ = some (.bool (ng 1)) ∧ w'.cell? ⟨g7, 4, none⟩ = some (.slice B7 (zl 1) d7) ∧ w'.cell? ⟨g7, 5, none⟩ = some (.int .i64 3) ∧ w'.cell? ⟨g4, 0, none⟩ = some (.bool (ng M)) ∧ w'.cell? ⟨g4, 1, none⟩ = some (.slice A4 (zl M) c4) ∧ w'.cell? ⟨g4, 2, none⟩ = some (.int .i64 E) ∧ w'.cell? ⟨g4, 3, none⟩ = some (.bool (ng N)) ∧ w'.cell? ⟨g4, 4, none⟩ = some (.slice B4 (zl N) d4) ∧ w'.cell? ⟨g4, 5, none⟩ = some (.int .i64 G)) (first | (with_reducible exact ⟨L.b0.c60, L.b0.c61, L.b0.c62, L.b0.c63, L.b0.c64, L.b0.c65, L.tl.b0.c60, L.tl.b0.c61, L.tl.b0.c62, L.tl.b0.c63, L.tl.b0.c64, L.tl.b0.c65, L.tl.tl.tl.tl.b0.c60, L.tl.tl.tl.tl.b0.c61, L.tl.tl.tl.tl.b0.c62, L.tl.tl.tl.tl.b0.c63, L.tl.tl.tl.tl.b0.c64, L.tl.tl.tl.tl.b0.c65⟩) | exact ⟨L.b0.c60, L.b0.c61, L.b0.c62, L.b0.c63, L.b0.c64, L.b0.c65, L.tl.b0.c60, L.tl.b0.c61, L.tl.b0.c62, L.tl.b0.c63, L.tl.b0.c64, L.tl.b0.c65, L.tl.tl.tl.tl.b0.c60, L.tl.tl.tl.tl.b0.c61, L.tl.tl.tl.tl.b0.c62, L.tl.tl.tl.tl.b0.c63, L.tl.tl.tl.tl.b0.c64, L.tl.tl.tl.tl.b0.c65⟩) (first | (go_at_call 20; (with_reducible refine (SM.out _ _ _ ?_ ?_ ).mono ?_); (· (refine isI_n (L.getN ?_) (L.getN ?_) <;> (repeat (first | (with_reducible exact List.mem_cons_self) | apply List.mem_cons_of_mem)))); (· (refine isI_n (L.getN ?_) (L.getN ?_) <;> (repeat (first | (with_reducible exact List.mem_cons_self) | apply List.mem_cons_of_mem)))); rintro e wh ⟨rfl, be⟩; replace L := L.step be; clear be) | (go_at_call 20; (with_reducible refine (SP.out _ _ _ ?_ ?_ ).mono ?_); (· (refine isI_n (L.getN ?_) (L.getN ?_) <;> (repeat (first | (with_reducible exact List.mem_cons_self) | apply List.mem_cons_of_mem)))); (· (refine isI_n (L.getN ?_) (L.getN ?_) <;> (repeat (first | (with_reducible exact List.mem_cons_self) | apply List.mem_cons_of_mem)))); rintro e wh ⟨rfl, be⟩; replace L := L.step be; clear be) | (go_at_call 22; (with_reducible refine (Ob8.out _ ).mono ?_); rintro e wh ⟨vh, rfl, ii, be⟩; obtain ⟨A9, c9, B9, d9, rfl, ia, ib⟩ := ii.form; replace L := ((L.step be).n ib).n ia; clear be ii ia ib))
  clear cel00 cel01 cel02 cel03 cel04 cel05 cel10 cel11 cel12 cel13 cel14 cel15 cel40 cel41 cel42 cel43 cel44 cel45
  go_wp2_with fail
  go_ret
  exact ⟨rfl, L.below⟩

end Go.Proofs.YtoobcngbnjeddaaGreatDoor
