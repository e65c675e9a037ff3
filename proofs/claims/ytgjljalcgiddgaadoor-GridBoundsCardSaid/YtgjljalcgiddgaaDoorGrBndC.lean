/- What GridBounds asks of its calls: all contracts, of numbers under letters. -/
import Derived.Test.YtgjljalcgiddgaaDoorGrBnd
import Derived.Test.YtgjljalcgiddgaaDoorGrP
import Derived.Test.YtgjljalcgiddgaaDoorBaseF
import Derived.Test.YtgjljalcgiddgaaDoorBaseE
namespace Go.Proofs.YtgjljalcgiddgaaDoor
open Go.RowKit
set_option linter.unusedVariables false
set_option linter.unusedSimpArgs false
set_option maxRecDepth 100000
attribute [local go_sem ↓] Go.wp_at_zero Go.wp_at_succ

/-- Letters for the numbers that come up, and what each call returns. -/
def BndC (w : World) (m e p : Int) : Prop := ∃ (M1 E1 M2 E2 M3 E3 M4 E4 M5 E5 KK S1 S2 S3 dn un fn gn qn xn yn zn Un Hn : Int) (dd ud fd qd xd yd zd Ud Hd : Nat) (ob : Bool), decide (S1 < 0) = false ∧ decide (S2 < 0) = false ∧ decide (S3 ≤ 0) = true ∧ (ob == (KK == 0)) = true ∧ Hid (∀ v W, IsD W v m e → Below w.heap.size w W → Calls Tryd.prog 10 #[v, .int .i64 p] W (RetDE W M1 E1 0)) ∧ Hid (∀ v W, IsD W v m e → Below w.heap.size w W → Calls Tryd.prog 11 #[v, .int .i64 p] W (RetDE W M2 E2 0)) ∧ Hid (∀ v W, IsD W v m e → Below w.heap.size w W → Calls Tryd.prog 12 #[v, .int .i64 p] W (RetDE W M3 E3 0)) ∧ Hid (∀ W, Below w.heap.size w W → Calls Tryd.prog 18 #[.int .i64 p] W (RetDE W M4 E4 0)) ∧ Hid (∀ W, Below w.heap.size w W → Calls Tryd.prog 18 #[.int .i64 (p + 1)] W (RetDE W M5 E5 0)) ∧ Hid (∀ v W, IsD W v m e → Calls Tryd.prog 19 #[v, .int .i64 p] W (RetB W ob)) ∧ Hid (∀ v W, IsD W v M1 E1 → Calls Tryd.prog 19 #[v, .int .i64 p] W (RetB W true)) ∧ Hid (∀ v W, IsD W v M2 E2 → Calls Tryd.prog 19 #[v, .int .i64 p] W (RetB W true)) ∧ Hid (∀ v W, IsD W v M3 E3 → Calls Tryd.prog 19 #[v, .int .i64 p] W (RetB W true)) ∧ Hid (∀ v W, IsD W v m e → Calls Tryd.prog 20 #[v] W (RetP W qn qd)) ∧ Hid (∀ v W, IsD W v M1 E1 → Calls Tryd.prog 20 #[v] W (RetP W xn xd)) ∧ Hid (∀ v W, IsD W v M2 E2 → Calls Tryd.prog 20 #[v] W (RetP W yn yd)) ∧ Hid (∀ v W, IsD W v M3 E3 → Calls Tryd.prog 20 #[v] W (RetP W zn zd)) ∧ Hid (∀ v W, IsD W v M4 E4 → Calls Tryd.prog 20 #[v] W (RetP W Un Ud)) ∧ Hid (∀ v W, IsD W v M5 E5 → Calls Tryd.prog 20 #[v] W (RetP W Hn Hd)) ∧ Hid (∀ v u W, IsP W v qn qd → IsP W u xn xd → Calls Tryd.prog 21 #[v, u] W (RetP W dn dd)) ∧ Hid (∀ v u W, IsP W v yn yd → IsP W u qn qd → Calls Tryd.prog 21 #[v, u] W (RetP W un ud)) ∧ Hid (∀ v u W, IsP W v zn zd → IsP W u qn qd → Calls Tryd.prog 21 #[v, u] W (RetP W fn fd)) ∧ Hid (∀ v W, IsP W v dn dd → Calls Tryd.prog 22 #[v] W (RetI W S1)) ∧ Hid (∀ v W, IsP W v un ud → Calls Tryd.prog 22 #[v] W (RetI W S2)) ∧ Hid (∀ v u W, IsP W v dn dd → IsP W u Un Ud → Calls Tryd.prog 23 #[v, u] W (RetI W (-1))) ∧ Hid (∀ v u W, IsP W v un ud → IsP W u Un Ud → Calls Tryd.prog 23 #[v, u] W (RetI W (-1))) ∧ Hid (∀ v u W, IsP W v fn fd → IsP W u Hn Hd → Calls Tryd.prog 23 #[v, u] W (RetI W (S3))) ∧ Hid (∀ v u W, IsP W v gn fd → IsP W u Hn Hd → Calls Tryd.prog 23 #[v, u] W (RetI W (-1))) ∧ Hid (∀ v W, IsP W v fn fd → Calls Tryd.prog 24 #[v] W (RetP W gn fd)) ∧ Hid (∀ v u W, IsD W v M1 E1 → IsD W u M2 E2 → Calls Tryd.prog 25 #[v, u] W (RetI W KK))
set_option maxHeartbeats 16000000 in
theorem bndC (m e p : Int) (w : World) (lm : zl m ≤ 9) (he1 : -300 ≤ e) (he2 : e ≤ 588) (hv : Dv m e) (hpa : -100 ≤ p) (hpb : p < 300) (hT : Tab w) : BndC w m e p := by
  have HT := Lib.hid (fun W (hW : Below w.heap.size w W) => hT.mono hW)
  have HV := Lib.hid hv
  clear hv
  have pP := perm_in (p := p) (by omega) (by omega)
  have pP1 := perm_in (p := p + 1) (by omega) (by omega)
  have la1 := zl_two m e.toNat
  have la2 := len_two (-e).toNat
  have zc1 := zl_cut (m * 2 ^ e.toNat) (2 ^ (-e).toNat) (two_pos8 _) p
  have zc2 := zl_cut (-m * 2 ^ e.toNat) (2 ^ (-e).toNat) (two_pos8 _) p
  have zc3 := zl_cut (m * 2 ^ e.toNat) (2 ^ (-e).toNat) (two_pos8 _) (p + 1)
  rw [show Rat.divInt (m * 2 ^ e.toNat) ((2 ^ (-e).toNat : Nat) : Int) = dq m e from rfl] at zc1 zc3
  rw [show Rat.divInt (-m * 2 ^ e.toNat) ((2 ^ (-e).toNat : Nat) : Int) = dq (-m) e from rfl, dq_neg, show -m * 2 ^ e.toNat = -(m * 2 ^ e.toNat) from Int.neg_mul _ _] at zc2
  have zn1 := zl_neg (m * 2 ^ e.toNat)
  have zn2 := zl_neg (cutQ (-(dq m e)) p)
  have zn3 := zl_add (cutQ (dq m e) (p + 1)) 1
  have zn4 := zl_shr (cutQ (dq m e) (p + 1) + 1) 1
  rw [show (2 : Int) ^ 1 = 2 from rfl] at zn4
  have z11 : zl 1 ≤ 1 := len_le1 (show 1 < 4294967296 by omega)
  have dk := down_ok (dq m e) p
  have uk := up_ok (dq m e) p
  have fk := off_ok (dq m e) p
  have hboth := cut_both (p := p) HV.out (by omega) (by omega) (by omega)
  have hqf := dq_form HV.out
  have hqs : zl (dq m e).num ≤ 300 ∧ len (dq m e).den ≤ 300 := by rw [hqf.1, hqf.2]; omega
  have x1 := fun v W h (hW : Below w.heap.size w W) => gfloor_any m e p v W h (by omega) (by omega) (by omega) (by omega) (HT.out W hW)
  have x2 := fun v W h (hW : Below w.heap.size w W) => gceil_any m e p v W h (by omega) (by omega) (by omega) (by omega) (HT.out W hW)
  have x3 := fun v W h (hW : Below w.heap.size w W) => gnear_any m e p v W h (by omega) (by omega) (by omega) (by omega) (HT.out W hW)
  have x4 := fun W (hW : Below w.heap.size w W) => gunit_any p W (by omega) (by omega) (HT.out W hW)
  have x5 := fun W (hW : Below w.heap.size w W) => gunit_any (p + 1) W (by omega) (by omega) (HT.out W hW)
  have on0 := fun v W h => gon_any m e p v W h (by omega) (by omega) (by omega)
  have rq0 := fun v W h => rrat8_any m e v W h (by omega) (by omega)
  rw [← hqf.1, ← hqf.2] at rq0
  have hob : onB m e p = (decide (m = 0) || decide (-p ≤ e)) := by unfold onB; rw [pP, Bool.true_and]
  clear hqf
  obtain ⟨C1, hC1⟩ : ∃ C, cutQ (dq m e) p = C := ⟨_, rfl⟩
  obtain ⟨C2, hC2⟩ : ∃ C, -(cutQ (-(dq m e)) p) = C := ⟨_, rfl⟩
  obtain ⟨C3, hC3⟩ : ∃ C, (cutQ (dq m e) (p + 1) + 1) / 2 = C := ⟨_, rfl⟩
  rw [hC1] at x1 dk zc1 hboth
  rw [hC2] at x2 uk zn2 hboth
  rw [hC3] at x3 fk zn4
  have o1 := mk_fits (m := C1) (e := -p) (by omega) (by omega) (by omega)
  have v1 := mk_ok o1
  have d1 := dq_mk o1
  have n1 := on_mk pP o1
  have y1 := zl_mk C1 (-p)
  have b1 := mkE_le (m := C1) (e := -p) (K := 400) (by omega) (by omega)
  rw [(g_yes pP C1).1, (g_yes pP C1).2.1, (g_yes pP C1).2.2, o1] at x1
  obtain ⟨M1, hM1⟩ : ∃ M, mkM C1 (-p) = M := ⟨_, rfl⟩
  obtain ⟨E1, hE1⟩ : ∃ E, mkE C1 (-p) = E := ⟨_, rfl⟩
  rw [hM1, hE1] at x1 v1 d1 n1
  rw [hM1] at y1
  rw [hE1] at b1
  have l1 := zl_two M1 E1.toNat
  have k1 := len_two (-E1).toNat
  have f1 := dq_form v1
  have s1 : zl (dq M1 E1).num ≤ 300 ∧ len (dq M1 E1).den ≤ 300 := by rw [f1.1, f1.2]; omega
  have rq1 := fun v W h => rrat8_any M1 E1 v W h (by omega) (by omega)
  rw [← f1.1, ← f1.2] at rq1
  have on1 := fun v W h => gon_any M1 E1 p v W h (by omega) (by omega) (by omega)
  rw [n1] at on1
  rw [← d1] at dk
  clear l1 k1 f1 n1 o1
  have o2 := mk_fits (m := C2) (e := -p) (by omega) (by omega) (by omega)
  have v2 := mk_ok o2
  have d2 := dq_mk o2
  have n2 := on_mk pP o2
  have y2 := zl_mk C2 (-p)
  have b2 := mkE_le (m := C2) (e := -p) (K := 400) (by omega) (by omega)
  rw [(g_yes pP C2).1, (g_yes pP C2).2.1, (g_yes pP C2).2.2, o2] at x2
  obtain ⟨M2, hM2⟩ : ∃ M, mkM C2 (-p) = M := ⟨_, rfl⟩
  obtain ⟨E2, hE2⟩ : ∃ E, mkE C2 (-p) = E := ⟨_, rfl⟩
  rw [hM2, hE2] at x2 v2 d2 n2
  rw [hM2] at y2
  rw [hE2] at b2
  have l2 := zl_two M2 E2.toNat
  have k2 := len_two (-E2).toNat
  have f2 := dq_form v2
  have s2 : zl (dq M2 E2).num ≤ 300 ∧ len (dq M2 E2).den ≤ 300 := by rw [f2.1, f2.2]; omega
  have rq2 := fun v W h => rrat8_any M2 E2 v W h (by omega) (by omega)
  rw [← f2.1, ← f2.2] at rq2
  have on2 := fun v W h => gon_any M2 E2 p v W h (by omega) (by omega) (by omega)
  rw [n2] at on2
  rw [← d2] at uk
  clear l2 k2 f2 n2 o2
  have o3 := mk_fits (m := C3) (e := -p) (by omega) (by omega) (by omega)
  have v3 := mk_ok o3
  have d3 := dq_mk o3
  have n3 := on_mk pP o3
  have y3 := zl_mk C3 (-p)
  have b3 := mkE_le (m := C3) (e := -p) (K := 400) (by omega) (by omega)
  rw [(g_yes pP C3).1, (g_yes pP C3).2.1, (g_yes pP C3).2.2, o3] at x3
  obtain ⟨M3, hM3⟩ : ∃ M, mkM C3 (-p) = M := ⟨_, rfl⟩
  obtain ⟨E3, hE3⟩ : ∃ E, mkE C3 (-p) = E := ⟨_, rfl⟩
  rw [hM3, hE3] at x3 v3 d3 n3
  rw [hM3] at y3
  rw [hE3] at b3
  have l3 := zl_two M3 E3.toNat
  have k3 := len_two (-E3).toNat
  have f3 := dq_form v3
  have s3 : zl (dq M3 E3).num ≤ 300 ∧ len (dq M3 E3).den ≤ 300 := by rw [f3.1, f3.2]; omega
  have rq3 := fun v W h => rrat8_any M3 E3 v W h (by omega) (by omega)
  rw [← f3.1, ← f3.2] at rq3
  have on3 := fun v W h => gon_any M3 E3 p v W h (by omega) (by omega) (by omega)
  rw [n3] at on3
  rw [← d3] at fk
  clear l3 k3 f3 n3 o3
  have o4 := mk_fits (m := 1) (e := -p) (by omega) (by omega) (by omega)
  have v4 := mk_ok o4
  have d4 := dq_mk o4
  have n4 := on_mk pP o4
  have y4 := zl_mk 1 (-p)
  have b4 := mkE_le (m := 1) (e := -p) (K := 400) (by omega) (by omega)
  rw [(g_yes pP 1).1, (g_yes pP 1).2.1, (g_yes pP 1).2.2, o4] at x4
  obtain ⟨M4, hM4⟩ : ∃ M, mkM 1 (-p) = M := ⟨_, rfl⟩
  obtain ⟨E4, hE4⟩ : ∃ E, mkE 1 (-p) = E := ⟨_, rfl⟩
  rw [hM4, hE4] at x4 v4 d4 n4
  rw [hM4] at y4
  rw [hE4] at b4
  have l4 := zl_two M4 E4.toNat
  have k4 := len_two (-E4).toNat
  have f4 := dq_form v4
  have s4 : zl (dq M4 E4).num ≤ 300 ∧ len (dq M4 E4).den ≤ 300 := by rw [f4.1, f4.2]; omega
  have rq4 := fun v W h => rrat8_any M4 E4 v W h (by omega) (by omega)
  rw [← f4.1, ← f4.2] at rq4
  have on4 := fun v W h => gon_any M4 E4 p v W h (by omega) (by omega) (by omega)
  rw [n4] at on4
  rw [← d4] at dk uk
  clear l4 k4 f4 n4 o4
  have o5 := mk_fits (m := 1) (e := -(p + 1)) (by omega) (by omega) (by omega)
  have v5 := mk_ok o5
  have d5 := dq_mk o5
  have n5 := on_mk pP1 o5
  have y5 := zl_mk 1 (-(p + 1))
  have b5 := mkE_le (m := 1) (e := -(p + 1)) (K := 400) (by omega) (by omega)
  rw [(g_yes pP1 1).1, (g_yes pP1 1).2.1, (g_yes pP1 1).2.2, o5] at x5
  obtain ⟨M5, hM5⟩ : ∃ M, mkM 1 (-(p + 1)) = M := ⟨_, rfl⟩
  obtain ⟨E5, hE5⟩ : ∃ E, mkE 1 (-(p + 1)) = E := ⟨_, rfl⟩
  rw [hM5, hE5] at x5 v5 d5 n5
  rw [hM5] at y5
  rw [hE5] at b5
  have l5 := zl_two M5 E5.toNat
  have k5 := len_two (-E5).toNat
  have f5 := dq_form v5
  have s5 : zl (dq M5 E5).num ≤ 300 ∧ len (dq M5 E5).den ≤ 300 := by rw [f5.1, f5.2]; omega
  have rq5 := fun v W h => rrat8_any M5 E5 v W h (by omega) (by omega)
  rw [← f5.1, ← f5.2] at rq5
  have on5 := fun v W h => gon_any M5 E5 (p + 1) v W h (by omega) (by omega) (by omega)
  rw [n5] at on5
  rw [← d5] at fk
  clear l5 k5 f5 n5 o5
  have cm := fun v u W h1 h2 => rcmp8_any M1 E1 M2 E2 v u W h1 h2 (by omega) (by omega) (by omega) (by omega)
  have hcs := cmp_same v1 v2
  have hKK : (cmpI (M1 * 2 ^ (E1 - min E1 E2).toNat) (M2 * 2 ^ (E2 - min E1 E2).toNat) == 0) = onB m e p := by
    rw [show (cmpI (M1 * 2 ^ (E1 - min E1 E2).toNat) (M2 * 2 ^ (E2 - min E1 E2).toNat) == 0) = decide (cmpI (M1 * 2 ^ (E1 - min E1 E2).toNat) (M2 * 2 ^ (E2 - min E1 E2).toNat) = 0) from rfl, hcs, hob, Bool.eq_iff_iff, Bool.and_eq_true, Bool.or_eq_true, decide_eq_true_iff, decide_eq_true_iff, decide_eq_true_iff, decide_eq_true_iff]
    rw [← hboth]
    constructor
    · rintro ⟨g1, g2⟩
      exact dq_inj (e := -p) (by rw [← d1, ← d2, g1, g2])
    · intro g1
      have g2 := dv_uniq v1 v2 (by rw [d1, d2, g1])
      exact ⟨g2.2, g2.1⟩
  obtain ⟨KK, hkk⟩ : ∃ K, cmpI (M1 * 2 ^ (E1 - min E1 E2).toNat) (M2 * 2 ^ (E2 - min E1 E2).toNat) = K := ⟨_, rfl⟩
  rw [hkk] at hKK cm
  obtain ⟨ob, hob2⟩ : ∃ b, onB m e p = b := ⟨_, rfl⟩
  rw [hob2] at hKK on0
  have hfin : (ob == (KK == 0)) = true := by rw [hKK]; simp
  clear hcs hob hkk hob2 hboth hKK d1 d2 d3 d4 d5 v1 v2 v3 v4 v5 hM1 hM2 hM3 hM4 hM5 hE1 hE2 hE3 hE4 hE5 zc1 zc2 zc3 zn1 zn2 zn3 zn4 z11 la1 la2 pP pP1 y1 y2 y3 y4 y5 b1 b2 b3 b4 b5
  obtain ⟨q, hq⟩ : ∃ q, dq m e = q := ⟨_, rfl⟩
  obtain ⟨X, hX⟩ : ∃ q, dq M1 E1 = q := ⟨_, rfl⟩
  obtain ⟨Y, hY⟩ : ∃ q, dq M2 E2 = q := ⟨_, rfl⟩
  obtain ⟨Z, hZ⟩ : ∃ q, dq M3 E3 = q := ⟨_, rfl⟩
  obtain ⟨U, hU⟩ : ∃ q, dq M4 E4 = q := ⟨_, rfl⟩
  obtain ⟨H, hH⟩ : ∃ q, dq M5 E5 = q := ⟨_, rfl⟩
  rw [hq] at hqs rq0 dk uk fk
  rw [hX] at s1 rq1 dk
  rw [hY] at s2 rq2 uk
  rw [hZ] at s3 rq3 fk
  rw [hU] at s4 rq4 dk uk
  rw [hH] at s5 rq5 fk
  clear hq hX hY hZ hU hH hC1 hC2 hC3
  have sb1 := fun v u W h1 h2 => rsub7_any q.num q.den X.num X.den v u W h1 h2 (by omega) (by omega) (by omega) (by omega) (den_pos' q) (den_pos' X)
  have sb2 := fun v u W h1 h2 => rsub7_any Y.num Y.den q.num q.den v u W h1 h2 (by omega) (by omega) (by omega) (by omega) (den_pos' Y) (den_pos' q)
  have sb3 := fun v u W h1 h2 => rsub7_any Z.num Z.den q.num q.den v u W h1 h2 (by omega) (by omega) (by omega) (by omega) (den_pos' Z) (den_pos' q)
  rw [sub_q] at sb1 sb2 sb3
  unfold RetQ at sb1 sb2 sb3
  have t1 := sub_small q X hqs s1
  have t2 := sub_small Y q s2 hqs
  have t3 := sub_small Z q s3 hqs
  have sg1 := fun v W h => rsign7_any (q - X).num (q - X).den v W h (by omega)
  have sg2 := fun v W h => rsign7_any (Y - q).num (Y - q).den v W h (by omega)
  have cp1 := fun v u W h1 h2 => rcmp7_any (q - X).num (q - X).den U.num U.den v u W h1 h2 (by omega) (by omega) (by omega) (by omega)
  rw [cmp_lt dk.2] at cp1
  have cp2 := fun v u W h1 h2 => rcmp7_any (Y - q).num (Y - q).den U.num U.den v u W h1 h2 (by omega) (by omega) (by omega) (by omega)
  rw [cmp_lt uk.2] at cp2
  have cp3 := fun v u W h1 h2 => rcmp7_any (Z - q).num (Z - q).den H.num H.den v u W h1 h2 (by omega) (by omega) (by omega) (by omega)
  have hneg := zl_neg (Z - q).num
  have ng3 := fun v W h => rneg7_any (Z - q).num (Z - q).den v W h (by omega)
  have cp4 := fun v u W h1 h2 => rcmp7_any (-(Z - q).num) (Z - q).den H.num H.den v u W h1 h2 (by omega) (by omega) (by omega) (by omega)
  have c4 := cmp_lt fk.2
  rw [Rat.neg_num, Rat.neg_den] at c4
  rw [c4] at cp4
  have sn1 := sign_nn dk.1
  have sn2 := sign_nn uk.1
  have sn3 := cmp_le fk.1
  obtain ⟨S1, hS1⟩ : ∃ s, cmpI (q - X).num 0 = s := ⟨_, rfl⟩
  obtain ⟨S2, hS2⟩ : ∃ s, cmpI (Y - q).num 0 = s := ⟨_, rfl⟩
  obtain ⟨S3, hS3⟩ : ∃ s, cmpI ((Z - q).num * (H.den : Int)) (H.num * ((Z - q).den : Int)) = s := ⟨_, rfl⟩
  rw [hS1] at sn1 sg1
  rw [hS2] at sn2 sg2
  rw [hS3] at sn3 cp3
  clear hS1 hS2 hS3 c4 t1 t2 t3 dk uk fk hneg s1 s2 s3 s4 s5 hqs HV lm he1 he2 hT
  exact ⟨M1, E1, M2, E2, M3, E3, M4, E4, M5, E5, KK, S1, S2, S3, (q - X).num, (Y - q).num, (Z - q).num, -(Z - q).num, q.num, X.num, Y.num, Z.num, U.num, H.num, (q - X).den, (Y - q).den, (Z - q).den, q.den, X.den, Y.den, Z.den, U.den, H.den, ob, sn1, sn2, sn3, hfin, Lib.hid x1, Lib.hid x2, Lib.hid x3, Lib.hid x4, Lib.hid x5, Lib.hid on0, Lib.hid on1, Lib.hid on2, Lib.hid on3, Lib.hid rq0, Lib.hid rq1, Lib.hid rq2, Lib.hid rq3, Lib.hid rq4, Lib.hid rq5, Lib.hid sb1, Lib.hid sb2, Lib.hid sb3, Lib.hid sg1, Lib.hid sg2, Lib.hid cp1, Lib.hid cp2, Lib.hid cp3, Lib.hid cp4, Lib.hid ng3, Lib.hid cm⟩

end Go.Proofs.YtgjljalcgiddgaaDoor
