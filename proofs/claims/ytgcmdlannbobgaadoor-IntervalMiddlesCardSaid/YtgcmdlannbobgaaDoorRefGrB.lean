/- The reference's On, Unit, FloorRat, CeilRat, Floor, Ceil, Near. -/
import Derived.Test.YtgcmdlannbobgaaDoorRefGrA
import Derived.Test.YtgcmdlannbobgaaDoorBaseF
import Derived.Test.YtgcmdlannbobgaaDoorBaseE
import Derived.Deep.RegionHeld3
import Derived.Deep.DrawnRows
namespace Go.Proofs.YtgcmdlannbobgaaDoor
open Go.RowKit
set_option linter.unusedVariables false
set_option linter.unusedSimpArgs false
set_option maxRecDepth 100000
attribute [local go_sem ↓] Go.wp_at_zero Go.wp_at_succ

set_option maxHeartbeats 1000000 in
theorem rperm9_any (p : Int) (w : World) :
    Calls Tryd.prog 110 #[.int .i64 p] w (fun e w' => e = .returned (.bool (permB p)) ∧ w = w') := by
  unfold permB
  by_cases q1 : -2048 ≤ p
  · have b1 : decide (-2048 ≤ p) = true := decide_eq_true q1
    rw [b1, Bool.true_and]
    go_enter Tryd.func110, Tryd.ntmps110
    go_wp2_with fail
    go_ret
    exact ⟨rfl, rfl⟩
  · have b1 : decide (-2048 ≤ p) = false := decide_eq_false q1
    rw [b1, Bool.false_and]
    go_enter Tryd.func110, Tryd.ntmps110
    go_wp2_with fail
    go_ret
    exact ⟨rfl, rfl⟩
set_option maxHeartbeats 4000000 in
theorem rfloorR9_any (a : Int) (d : Nat) (p : Int) (vx : Value) (w : World) (hx : IsP w vx a d) (la : zl a ≤ 20000) (ld : len d ≤ 20000) (hd : 0 < d) (hp1 : -9223372036854775808 ≤ p) (hp2 : p ≤ 9223372036854775807) :
    Calls Tryd.prog 81 #[vx, .int .i64 p] w (RetDE w (gM (cutQ (Rat.divInt a d) p) p) (gE (cutQ (Rat.divInt a d) p) p) (gR (cutQ (Rat.divInt a d) p) p)) := by
  obtain ⟨A, c, B, g, rfl, hz, _, hn⟩ := hx.form
  have L0 := (Lq.mk0 w).q hx
  have HP0 := fun W => rperm9_any p W
  cases hp : permB p
  · rw [(g_no hp _).1, (g_no hp _).2.1, (g_no hp _).2.2]
    rw [hp] at HP0
    have HP := Lib.hid HP0
    clear HP0 hp
    go_enter Tryd.func81, Tryd.ntmps81
    go_wp2_with fail
    have L := ((L0.varQ (w.heap.size) (by simp) (ng a) A B (zl a) c (len d) g).varD (w.heap.size + 1) (by simp) false none 0 0 0)
    have c00 := L.b0.c30
    have f00 := L.b0.fr 0
    have c01 := L.b0.c31
    have f01 := L.b0.fr 1
    have c02 := L.b0.c32
    have f02 := L.b0.fr 2
    have c10 := L.tl.b0.c30
    have f10 := L.tl.b0.fr 0
    have c11 := L.tl.b0.c31
    have f11 := L.tl.b0.fr 1
    have c12 := L.tl.b0.c32
    have f12 := L.tl.b0.fr 2
    (try go_wp2_with fail)
    refine (HP.out _).mono ?_
    rintro e9 w' ⟨rfl, rfl⟩
    go_wp2_with fail
    first
    | exact bodyPost_ret (v := .tuple #[.agg #[.bool false, .slice none 0 0, .int .i64 0], .int .i64 1]) (by simp [results, Tryd.results81, go_sem, c00, c01, c02]) rfl ⟨_, rfl, isD_zero _, L.below⟩
    | (have LP := L.putD (by omega) (by first | (simp; done) | (simp; omega)) false none 0 0 0
       have k0 := LP.b0.c30
       have k1 := LP.b0.c31
       have k2 := LP.b0.c32
       unfold put3 at k0 k1 k2
       exact bodyPost_ret (v := .tuple #[.agg #[.bool false, .slice none 0 0, .int .i64 0], .int .i64 1]) (by simp [results, Tryd.results81, go_sem, k0, k1, k2]) rfl ⟨_, rfl, isD_zero _, LP.below⟩)
  · obtain ⟨hpa, hpb⟩ := perm_yes hp
    rw [hp] at HP0
    have HP := Lib.hid HP0
    have hzc := zl_cut a d hd p
    have HC0 := fun v W h => rcut_any a d p v W h la ld hd (by omega) (by omega)
    obtain ⟨C, hC⟩ : ∃ C, cutQ (Rat.divInt a (d : Int)) p = C := ⟨_, rfl⟩
    rw [hC] at HC0 hzc ⊢
    have HM0 := fun v W h => rmake8_any C (-p) v W h (by omega)
    obtain ⟨M, hM⟩ : ∃ M, gM C p = M := ⟨_, rfl⟩
    obtain ⟨E, hE⟩ : ∃ E, gE C p = E := ⟨_, rfl⟩
    obtain ⟨R, hR⟩ : ∃ R, gR C p = R := ⟨_, rfl⟩
    rw [hM, hE, hR]
    rw [(g_yes hp C).1] at hM
    rw [(g_yes hp C).2.1] at hE
    rw [(g_yes hp C).2.2] at hR
    rw [hM, hE, hR] at HM0
    have HC := Lib.hid HC0
    have HM := Lib.hid HM0
    have hw : IntKind.i64.wrap (-p) = -p := by rw [IntKind.wrap_i64]; omega
    clear HC0 HM0 HP0 hM hE hR hC hzc hz hn la ld hd hp
    go_enter Tryd.func81, Tryd.ntmps81
    go_wp2_with fail
    have L := ((L0.varQ (w.heap.size) (by simp) (ng a) A B (zl a) c (len d) g).varD (w.heap.size + 1) (by simp) false none 0 0 0)
    have c00 := L.b0.c30
    have f00 := L.b0.fr 0
    have c01 := L.b0.c31
    have f01 := L.b0.fr 1
    have c02 := L.b0.c32
    have f02 := L.b0.fr 2
    have c10 := L.tl.b0.c30
    have f10 := L.tl.b0.fr 0
    have c11 := L.tl.b0.c31
    have f11 := L.tl.b0.fr 1
    have c12 := L.tl.b0.c32
    have f12 := L.tl.b0.fr 2
    (try go_wp2_with fail)
    refine (HP.out _).mono ?_
    rintro e9 w' ⟨rfl, rfl⟩
    (try go_wp2_with fail)
    refine (HC.out _ _ (L.getQ (by simp))).mono ?_
    rintro e w1 ⟨v1, rfl, iz, be⟩
    clear c00 f00 c01 f01 c02 f02 c10 f10 c11 f11 c12 f12
    replace L := (L.step be).z iz
    clear be iz
    have c00 := L.b0.c30
    have f00 := L.b0.fr 0
    have c01 := L.b0.c31
    have f01 := L.b0.fr 1
    have c02 := L.b0.c32
    have f02 := L.b0.fr 2
    have c10 := L.tl.b0.c30
    have f10 := L.tl.b0.fr 0
    have c11 := L.tl.b0.c31
    have f11 := L.tl.b0.fr 1
    have c12 := L.tl.b0.c32
    have f12 := L.tl.b0.fr 2
    (try go_wp2_with fail)
    refine (HM.out _ _ (L.getZ (by simp))).mono ?_
    rintro e w2 ⟨v8, rfl, id, be⟩
    clear c00 f00 c01 f01 c02 f02 c10 f10 c11 f11 c12 f12
    obtain ⟨A9, c9, rfl, _, in9⟩ := id.form
    replace L := (L.step be).n in9
    clear be in9 id
    have c00 := L.b0.c30
    have f00 := L.b0.fr 0
    have c01 := L.b0.c31
    have f01 := L.b0.fr 1
    have c02 := L.b0.c32
    have f02 := L.b0.fr 2
    have c10 := L.tl.b0.c30
    have c11 := L.tl.b0.c31
    have c12 := L.tl.b0.c32
    (try go_wp2_with fail)
    have LP := L.putD (by omega) (by first | (simp; done) | (simp; omega)) (ng M) A9 (zl M) c9 (E)
    have k0 := LP.b0.c30
    have k1 := LP.b0.c31
    have k2 := LP.b0.c32
    unfold put3 at k0 k1 k2
    exact bodyPost_ret (v := .tuple #[.agg #[.bool (ng M), .slice A9 (zl M) c9, .int .i64 (E)], .int .i64 R]) (by simp [results, Tryd.results81, go_sem, k0, k1, k2]) rfl ⟨_, rfl, isD_n LP.hn, LP.below⟩
set_option maxHeartbeats 4000000 in
theorem rceilR9_any (a : Int) (d : Nat) (p : Int) (vx : Value) (w : World) (hx : IsP w vx a d) (la : zl a ≤ 20000) (ld : len d ≤ 20000) (hd : 0 < d) (hp1 : -9223372036854775808 ≤ p) (hp2 : p ≤ 9223372036854775807) :
    Calls Tryd.prog 82 #[vx, .int .i64 p] w (RetDE w (gM (-(cutQ (-(Rat.divInt a d)) p)) p) (gE (-(cutQ (-(Rat.divInt a d)) p)) p) (gR (-(cutQ (-(Rat.divInt a d)) p)) p)) := by
  obtain ⟨A, c, B, g, rfl, hz, _, hn⟩ := hx.form
  have L0 := (Lq.mk0 w).q hx
  have HP0 := fun W => rperm9_any p W
  cases hp : permB p
  · rw [(g_no hp _).1, (g_no hp _).2.1, (g_no hp _).2.2]
    rw [hp] at HP0
    have HP := Lib.hid HP0
    clear HP0 hp
    go_enter Tryd.func82, Tryd.ntmps82
    go_wp2_with fail
    have L := ((L0.varQ (w.heap.size) (by simp) (ng a) A B (zl a) c (len d) g).varD (w.heap.size + 1) (by simp) false none 0 0 0)
    have c00 := L.b0.c30
    have f00 := L.b0.fr 0
    have c01 := L.b0.c31
    have f01 := L.b0.fr 1
    have c02 := L.b0.c32
    have f02 := L.b0.fr 2
    have c10 := L.tl.b0.c30
    have f10 := L.tl.b0.fr 0
    have c11 := L.tl.b0.c31
    have f11 := L.tl.b0.fr 1
    have c12 := L.tl.b0.c32
    have f12 := L.tl.b0.fr 2
    (try go_wp2_with fail)
    refine (HP.out _).mono ?_
    rintro e9 w' ⟨rfl, rfl⟩
    go_wp2_with fail
    first
    | exact bodyPost_ret (v := .tuple #[.agg #[.bool false, .slice none 0 0, .int .i64 0], .int .i64 1]) (by simp [results, Tryd.results82, go_sem, c00, c01, c02]) rfl ⟨_, rfl, isD_zero _, L.below⟩
    | (have LP := L.putD (by omega) (by first | (simp; done) | (simp; omega)) false none 0 0 0
       have k0 := LP.b0.c30
       have k1 := LP.b0.c31
       have k2 := LP.b0.c32
       unfold put3 at k0 k1 k2
       exact bodyPost_ret (v := .tuple #[.agg #[.bool false, .slice none 0 0, .int .i64 0], .int .i64 1]) (by simp [results, Tryd.results82, go_sem, k0, k1, k2]) rfl ⟨_, rfl, isD_zero _, LP.below⟩)
  · obtain ⟨hpa, hpb⟩ := perm_yes hp
    rw [hp] at HP0
    have HP := Lib.hid HP0
    have hzn := zl_neg a
    have hzc := zl_cut (-a) d hd p
    have HN0 := fun v W h => rneg7_any a d v W h (by omega)
    have HC0 := fun v W h => rcut_any (-a) d p v W h (by omega) ld hd (by omega) (by omega)
    rw [← Rat.neg_divInt] at HC0 hzc
    obtain ⟨C1, hC1⟩ : ∃ C, cutQ (-(Rat.divInt a (d : Int))) p = C := ⟨_, rfl⟩
    rw [hC1] at HC0 hzc ⊢
    have hz2 := zl_neg C1
    have HG0 := fun v W h => rzneg_any C1 v W h (by omega)
    obtain ⟨C, hC⟩ : ∃ C, -C1 = C := ⟨_, rfl⟩
    rw [hC] at HG0 hz2 ⊢
    have HM0 := fun v W h => rmake8_any C (-p) v W h (by omega)
    obtain ⟨M, hM⟩ : ∃ M, gM C p = M := ⟨_, rfl⟩
    obtain ⟨E, hE⟩ : ∃ E, gE C p = E := ⟨_, rfl⟩
    obtain ⟨R, hR⟩ : ∃ R, gR C p = R := ⟨_, rfl⟩
    rw [hM, hE, hR]
    rw [(g_yes hp C).1] at hM
    rw [(g_yes hp C).2.1] at hE
    rw [(g_yes hp C).2.2] at hR
    rw [hM, hE, hR] at HM0
    generalize -a = na at *
    have HN := Lib.hid HN0
    have HC := Lib.hid HC0
    have HG := Lib.hid HG0
    have HM := Lib.hid HM0
    have hw : IntKind.i64.wrap (-p) = -p := by rw [IntKind.wrap_i64]; omega
    clear HC0 HM0 HG0 HN0 HP0 hM hE hR hC hC1 hzc hzn hz2 hz hn la ld hd hp
    go_enter Tryd.func82, Tryd.ntmps82
    go_wp2_with fail
    have L := ((L0.varQ (w.heap.size) (by simp) (ng a) A B (zl a) c (len d) g).varD (w.heap.size + 1) (by simp) false none 0 0 0)
    have c00 := L.b0.c30
    have f00 := L.b0.fr 0
    have c01 := L.b0.c31
    have f01 := L.b0.fr 1
    have c02 := L.b0.c32
    have f02 := L.b0.fr 2
    have c10 := L.tl.b0.c30
    have f10 := L.tl.b0.fr 0
    have c11 := L.tl.b0.c31
    have f11 := L.tl.b0.fr 1
    have c12 := L.tl.b0.c32
    have f12 := L.tl.b0.fr 2
    (try go_wp2_with fail)
    refine (HP.out _).mono ?_
    rintro e9 w' ⟨rfl, rfl⟩
    (try go_wp2_with fail)
    refine (HN.out _ _ (L.getQ (by simp))).mono ?_
    rintro e w1 ⟨v1, rfl, iq, be⟩
    clear c00 f00 c01 f01 c02 f02 c10 f10 c11 f11 c12 f12
    replace L := (L.step be).q iq
    clear be iq
    have c00 := L.b0.c30
    have f00 := L.b0.fr 0
    have c01 := L.b0.c31
    have f01 := L.b0.fr 1
    have c02 := L.b0.c32
    have f02 := L.b0.fr 2
    have c10 := L.tl.b0.c30
    have f10 := L.tl.b0.fr 0
    have c11 := L.tl.b0.c31
    have f11 := L.tl.b0.fr 1
    have c12 := L.tl.b0.c32
    have f12 := L.tl.b0.fr 2
    (try go_wp2_with fail)
    refine (HC.out _ _ L.hq).mono ?_
    rintro e w2 ⟨v2, rfl, iz, be⟩
    clear c00 f00 c01 f01 c02 f02 c10 f10 c11 f11 c12 f12
    replace L := (L.step be).z iz
    clear be iz
    have c00 := L.b0.c30
    have f00 := L.b0.fr 0
    have c01 := L.b0.c31
    have f01 := L.b0.fr 1
    have c02 := L.b0.c32
    have f02 := L.b0.fr 2
    have c10 := L.tl.b0.c30
    have f10 := L.tl.b0.fr 0
    have c11 := L.tl.b0.c31
    have f11 := L.tl.b0.fr 1
    have c12 := L.tl.b0.c32
    have f12 := L.tl.b0.fr 2
    (try go_wp2_with fail)
    refine (HG.out _ _ L.hz).mono ?_
    rintro e w3 ⟨v3, rfl, iz, be⟩
    clear c00 f00 c01 f01 c02 f02 c10 f10 c11 f11 c12 f12
    replace L := (L.step be).z iz
    clear be iz
    have c00 := L.b0.c30
    have f00 := L.b0.fr 0
    have c01 := L.b0.c31
    have f01 := L.b0.fr 1
    have c02 := L.b0.c32
    have f02 := L.b0.fr 2
    have c10 := L.tl.b0.c30
    have f10 := L.tl.b0.fr 0
    have c11 := L.tl.b0.c31
    have f11 := L.tl.b0.fr 1
    have c12 := L.tl.b0.c32
    have f12 := L.tl.b0.fr 2
    (try go_wp2_with fail)
    refine (HM.out _ _ (L.getZ (by simp))).mono ?_
    rintro e w4 ⟨v8, rfl, id, be⟩
    clear c00 f00 c01 f01 c02 f02 c10 f10 c11 f11 c12 f12
    obtain ⟨A9, c9, rfl, _, in9⟩ := id.form
    replace L := (L.step be).n in9
    clear be in9 id
    have c00 := L.b0.c30
    have f00 := L.b0.fr 0
    have c01 := L.b0.c31
    have f01 := L.b0.fr 1
    have c02 := L.b0.c32
    have f02 := L.b0.fr 2
    have c10 := L.tl.b0.c30
    have c11 := L.tl.b0.c31
    have c12 := L.tl.b0.c32
    (try go_wp2_with fail)
    have LP := L.putD (by omega) (by first | (simp; done) | (simp; omega)) (ng M) A9 (zl M) c9 (E)
    have k0 := LP.b0.c30
    have k1 := LP.b0.c31
    have k2 := LP.b0.c32
    unfold put3 at k0 k1 k2
    exact bodyPost_ret (v := .tuple #[.agg #[.bool (ng M), .slice A9 (zl M) c9, .int .i64 (E)], .int .i64 R]) (by simp [results, Tryd.results82, go_sem, k0, k1, k2]) rfl ⟨_, rfl, isD_n LP.hn, LP.below⟩
set_option maxHeartbeats 4000000 in
theorem rfloor9_any (m e p : Int) (vx : Value) (w : World) (hx : IsD w vx m e) (lm : zl m ≤ 10000) (he : -70000 ≤ e ∧ e ≤ 70000) (hp1 : -9223372036854775808 ≤ p) (hp2 : p ≤ 9223372036854775807) :
    Calls Tryd.prog 46 #[vx, .int .i64 p] w (RetDE w (gM (cutQ (dq m e) p) p) (gE (cutQ (dq m e) p) p) (gR (cutQ (dq m e) p) p)) := by
  obtain ⟨A, c, rfl, hz, hn⟩ := hx.form
  have L0 := (Lq.mk0 w).n hn
  have l1 := zl_two m e.toNat
  have l2 := len_two (-e).toNat
  have HR0 := fun v W h => rrat8_any m e v W h (by omega) (by omega)
  have HF0 := fun v W h => rfloorR9_any (m * 2 ^ e.toNat) (2 ^ (-e).toNat) p v W h (by omega) (by omega) (two_pos8 _) hp1 hp2
  rw [show Rat.divInt (m * 2 ^ e.toNat) ((2 ^ (-e).toNat : Nat) : Int) = dq m e from rfl] at HF0
  generalize gM (cutQ (dq m e) p) p = M at *
  generalize gE (cutQ (dq m e) p) p = E at *
  generalize gR (cutQ (dq m e) p) p = R at *
  generalize m * 2 ^ e.toNat = an at *
  generalize 2 ^ (-e).toNat = ad at *
  have HR := Lib.hid HR0
  have HF := Lib.hid HF0
  clear HR0 HF0 l1 l2 hx hz hn lm he
  go_enter Tryd.func46, Tryd.ntmps46
  go_wp2_with fail
  have L := ((L0.varD (w.heap.size) (by simp) (ng m) A (zl m) c e).varD (w.heap.size + 1) (by simp) false none 0 0 0)
  have c00 := L.b0.c30
  have f00 := L.b0.fr 0
  have c01 := L.b0.c31
  have f01 := L.b0.fr 1
  have c02 := L.b0.c32
  have f02 := L.b0.fr 2
  have c10 := L.tl.b0.c30
  have f10 := L.tl.b0.fr 0
  have c11 := L.tl.b0.c31
  have f11 := L.tl.b0.fr 1
  have c12 := L.tl.b0.c32
  have f12 := L.tl.b0.fr 2
  (try go_wp2_with fail)
  refine (HR.out _ _ (isD_n (s := .slice A (zl m) c) (L.getN (by simp)))).mono ?_
  rintro e w1 ⟨v1, rfl, iq, be⟩
  clear c00 f00 c01 f01 c02 f02 c10 f10 c11 f11 c12 f12
  replace L := (L.step be).q iq
  clear be iq
  have c00 := L.b0.c30
  have f00 := L.b0.fr 0
  have c01 := L.b0.c31
  have f01 := L.b0.fr 1
  have c02 := L.b0.c32
  have f02 := L.b0.fr 2
  have c10 := L.tl.b0.c30
  have f10 := L.tl.b0.fr 0
  have c11 := L.tl.b0.c31
  have f11 := L.tl.b0.fr 1
  have c12 := L.tl.b0.c32
  have f12 := L.tl.b0.fr 2
  (try go_wp2_with fail)
  refine (HF.out _ _ L.hq).mono ?_
  rintro e w2 ⟨v8, rfl, id, be⟩
  clear c00 f00 c01 f01 c02 f02 c10 f10 c11 f11 c12 f12
  obtain ⟨A9, c9, rfl, _, in9⟩ := id.form
  replace L := (L.step be).n in9
  clear be in9 id
  have c00 := L.b0.c30
  have f00 := L.b0.fr 0
  have c01 := L.b0.c31
  have f01 := L.b0.fr 1
  have c02 := L.b0.c32
  have f02 := L.b0.fr 2
  have c10 := L.tl.b0.c30
  have c11 := L.tl.b0.c31
  have c12 := L.tl.b0.c32
  (try go_wp2_with fail)
  have LP := L.putD (by omega) (by first | (simp; done) | (simp; omega)) (ng M) A9 (zl M) c9 (E)
  have k0 := LP.b0.c30
  have k1 := LP.b0.c31
  have k2 := LP.b0.c32
  unfold put3 at k0 k1 k2
  exact bodyPost_ret (v := .tuple #[.agg #[.bool (ng M), .slice A9 (zl M) c9, .int .i64 (E)], .int .i64 R]) (by simp [results, Tryd.results46, go_sem, k0, k1, k2]) rfl ⟨_, rfl, isD_n LP.hn, LP.below⟩
set_option maxHeartbeats 4000000 in
theorem rceil9_any (m e p : Int) (vx : Value) (w : World) (hx : IsD w vx m e) (lm : zl m ≤ 10000) (he : -70000 ≤ e ∧ e ≤ 70000) (hp1 : -9223372036854775808 ≤ p) (hp2 : p ≤ 9223372036854775807) :
    Calls Tryd.prog 47 #[vx, .int .i64 p] w (RetDE w (gM (-(cutQ (-(dq m e)) p)) p) (gE (-(cutQ (-(dq m e)) p)) p) (gR (-(cutQ (-(dq m e)) p)) p)) := by
  obtain ⟨A, c, rfl, hz, hn⟩ := hx.form
  have L0 := (Lq.mk0 w).n hn
  have l1 := zl_two m e.toNat
  have l2 := len_two (-e).toNat
  have HR0 := fun v W h => rrat8_any m e v W h (by omega) (by omega)
  have HF0 := fun v W h => rceilR9_any (m * 2 ^ e.toNat) (2 ^ (-e).toNat) p v W h (by omega) (by omega) (two_pos8 _) hp1 hp2
  rw [show Rat.divInt (m * 2 ^ e.toNat) ((2 ^ (-e).toNat : Nat) : Int) = dq m e from rfl] at HF0
  generalize gM (-(cutQ (-(dq m e)) p)) p = M at *
  generalize gE (-(cutQ (-(dq m e)) p)) p = E at *
  generalize gR (-(cutQ (-(dq m e)) p)) p = R at *
  generalize m * 2 ^ e.toNat = an at *
  generalize 2 ^ (-e).toNat = ad at *
  have HR := Lib.hid HR0
  have HF := Lib.hid HF0
  clear HR0 HF0 l1 l2 hx hz hn lm he
  go_enter Tryd.func47, Tryd.ntmps47
  go_wp2_with fail
  have L := ((L0.varD (w.heap.size) (by simp) (ng m) A (zl m) c e).varD (w.heap.size + 1) (by simp) false none 0 0 0)
  have c00 := L.b0.c30
  have f00 := L.b0.fr 0
  have c01 := L.b0.c31
  have f01 := L.b0.fr 1
  have c02 := L.b0.c32
  have f02 := L.b0.fr 2
  have c10 := L.tl.b0.c30
  have f10 := L.tl.b0.fr 0
  have c11 := L.tl.b0.c31
  have f11 := L.tl.b0.fr 1
  have c12 := L.tl.b0.c32
  have f12 := L.tl.b0.fr 2
  (try go_wp2_with fail)
  refine (HR.out _ _ (isD_n (s := .slice A (zl m) c) (L.getN (by simp)))).mono ?_
  rintro e w1 ⟨v1, rfl, iq, be⟩
  clear c00 f00 c01 f01 c02 f02 c10 f10 c11 f11 c12 f12
  replace L := (L.step be).q iq
  clear be iq
  have c00 := L.b0.c30
  have f00 := L.b0.fr 0
  have c01 := L.b0.c31
  have f01 := L.b0.fr 1
  have c02 := L.b0.c32
  have f02 := L.b0.fr 2
  have c10 := L.tl.b0.c30
  have f10 := L.tl.b0.fr 0
  have c11 := L.tl.b0.c31
  have f11 := L.tl.b0.fr 1
  have c12 := L.tl.b0.c32
  have f12 := L.tl.b0.fr 2
  (try go_wp2_with fail)
  refine (HF.out _ _ L.hq).mono ?_
  rintro e w2 ⟨v8, rfl, id, be⟩
  clear c00 f00 c01 f01 c02 f02 c10 f10 c11 f11 c12 f12
  obtain ⟨A9, c9, rfl, _, in9⟩ := id.form
  replace L := (L.step be).n in9
  clear be in9 id
  have c00 := L.b0.c30
  have f00 := L.b0.fr 0
  have c01 := L.b0.c31
  have f01 := L.b0.fr 1
  have c02 := L.b0.c32
  have f02 := L.b0.fr 2
  have c10 := L.tl.b0.c30
  have c11 := L.tl.b0.c31
  have c12 := L.tl.b0.c32
  (try go_wp2_with fail)
  have LP := L.putD (by omega) (by first | (simp; done) | (simp; omega)) (ng M) A9 (zl M) c9 (E)
  have k0 := LP.b0.c30
  have k1 := LP.b0.c31
  have k2 := LP.b0.c32
  unfold put3 at k0 k1 k2
  exact bodyPost_ret (v := .tuple #[.agg #[.bool (ng M), .slice A9 (zl M) c9, .int .i64 (E)], .int .i64 R]) (by simp [results, Tryd.results47, go_sem, k0, k1, k2]) rfl ⟨_, rfl, isD_n LP.hn, LP.below⟩
end Go.Proofs.YtgcmdlannbobgaaDoor
