/- What a quotient is as one result; the results for fractions of the arguments lie in the images. -/
import Derived.Test.YtoobcngbnjeddaaGreatDoorArSm
import Derived.Test.YtoobcngbnjeddaaGreatDoorBaseW
import Derived.Test.YtoobcngbnjeddaaGreatDoorBaseX
import Derived.Test.YtoobcngbnjeddaaGreatDoorBaseF
import Derived.Test.YtoobcngbnjeddaaGreatDoorBaseE
import Derived.Test.YtoobcngbnjeddaaGreatDoorArPH
namespace Go.Proofs.YtoobcngbnjeddaaGreatDoor
open Go.RowKit
set_option linter.unusedVariables false
set_option linter.unusedSimpArgs false
set_option maxRecDepth 100000
attribute [local go_sem ↓] Go.wp_at_zero Go.wp_at_succ

theorem RetDv.fix (m e n f m2 e2 n2 f2 k : Int) : ∃ M E N G er : Int, (∀ W, RetDv W m e n f m2 e2 n2 f2 k = RetIE W M E N G er) ∧ (zl M ≤ 400 ∧ (-10000 ≤ E ∧ E ≤ 10000)) ∧ (zl N ≤ 400 ∧ (-10000 ≤ G ∧ G ≤ 10000)) ∧ (er = 0 → cmpI m2 0 = cmpI n2 0 ∧ ¬ cmpI m2 0 = 0 ∧ dq M E ≤ min4 (dq m e / dq m2 e2) (dq m e / dq n2 f2) (dq n f / dq m2 e2) (dq n f / dq n2 f2) ∧ max4 (dq m e / dq m2 e2) (dq m e / dq n2 f2) (dq n f / dq m2 e2) (dq n f / dq n2 f2) ≤ dq N G) := by
  have z0 := zl0
  have b0 : zl 0 ≤ 400 ∧ (-10000 ≤ (0 : Int) ∧ (0 : Int) ≤ 10000) := by omega
  unfold RetDv
  by_cases h1 : workB k = true
  · by_cases h2 : cmpI m2 0 = cmpI n2 0
    · by_cases h3 : cmpI m2 0 = 0
      · exact ⟨0, 0, 0, 0, 2, fun W => by rw [if_pos h1, if_pos h2, if_pos h3], b0, b0, fun h => absurd h (by decide)⟩
      · obtain ⟨M, E, N, G, er, fx, b1, b2, hok, _, _⟩ := RetEn.fix (min4 (dq m e / dq m2 e2) (dq m e / dq n2 f2) (dq n f / dq m2 e2) (dq n f / dq n2 f2)) (max4 (dq m e / dq m2 e2) (dq m e / dq n2 f2) (dq n f / dq m2 e2) (dq n f / dq n2 f2)) k
        refine ⟨M, E, N, G, er, fun W => by rw [if_pos h1, if_pos h2, if_neg h3]; exact fx W, b1, b2, fun h => ?_⟩
        obtain ⟨_, x1, x2, rfl, rfl, rfl, rfl⟩ := hok h
        exact ⟨h2, h3, en_lo x1, up_hi x2⟩
    · exact ⟨0, 0, 0, 0, 5, fun W => by rw [if_pos h1, if_neg h2], b0, b0, fun h => absurd h (by decide)⟩
  · exact ⟨0, 0, 0, 0, 1, fun W => by rw [if_neg h1], b0, b0, fun h => absurd h (by decide)⟩
theorem div_in_pos {a b c d p q : Rat} (hp1 : a ≤ p) (hp2 : p ≤ b) (hc : 0 < c) (hq1 : c ≤ q) (hq2 : q ≤ d) : min4 (a / c) (a / d) (b / c) (b / d) ≤ p / q ∧ p / q ≤ max4 (a / c) (a / d) (b / c) (b / d) := by
  have hq : 0 < q := rle_lt hc hq1
  have h := mul_between hp1 hp2 (inv_anti hq hq2) (inv_anti hc hq1)
  simp only [Rat.div_def]
  have m4 := min4_le (a * c⁻¹) (a * d⁻¹) (b * c⁻¹) (b * d⁻¹)
  have M4 := le_max4 (a * c⁻¹) (a * d⁻¹) (b * c⁻¹) (b * d⁻¹)
  exact ⟨Rat.le_trans (le_min4 m4.2.1 m4.1 m4.2.2.2 m4.2.2.1) h.1, Rat.le_trans h.2 (max4_le M4.2.1 M4.1 M4.2.2.2 M4.2.2.1)⟩
theorem div_in {a b c d p q : Rat} (hp1 : a ≤ p) (hp2 : p ≤ b) (hq1 : c ≤ q) (hq2 : q ≤ d) (hs : 0 < c ∨ d < 0) : min4 (a / c) (a / d) (b / c) (b / d) ≤ p / q ∧ p / q ≤ max4 (a / c) (a / d) (b / c) (b / d) := by
  rcases hs with h | h
  · exact div_in_pos hp1 hp2 h hq1 hq2
  · have h0 : (0 : Rat) < -d := by
      have := Rat.neg_lt_neg h
      rwa [Rat.neg_zero] at this
    have x := div_in_pos (Rat.neg_le_neg hp2) (Rat.neg_le_neg hp1) h0 (Rat.neg_le_neg hq2) (Rat.neg_le_neg hq1)
    rw [neg_div_neg', neg_div_neg', neg_div_neg', neg_div_neg', neg_div_neg', min4_rev, max4_rev] at x
    exact x
/-- An element of an interval, of moderate size. -/
def El (lo hi : Rat) (m e : Int) : Prop := lo ≤ dq m e ∧ dq m e ≤ hi ∧ zl m ≤ 40 ∧ (-1600 ≤ e ∧ e ≤ 2880)
theorem plainD_3 (m1 e1 m2 e2 m3 e3 : Int) (A1 A2 A3 : Option Addr) (c1 c2 c3 : Nat) : Plain #[.bool (ng m1), .slice A1 (zl m1) c1, .int .i64 e1, .bool (ng m2), .slice A2 (zl m2) c2, .int .i64 e2, .bool (ng m3), .slice A3 (zl m3) c3, .int .i64 e3] := fun j x => by
  match j with
  | 0 => simp
  | 1 => simp
  | 2 => simp
  | 3 => simp
  | 4 => simp
  | 5 => simp
  | 6 => simp
  | 7 => simp
  | 8 => simp
  | j + 9 => simp
theorem row3_cell {w : World} {g : Nat} {T : TypeId} {lo hi : Rat} {m1 e1 m2 e2 m3 e3 : Int} {A1 A2 A3 : Option Addr} {c1 c2 c3 : Nat} (h : Var w g T #[.bool (ng m1), .slice A1 (zl m1) c1, .int .i64 e1, .bool (ng m2), .slice A2 (zl m2) c2, .int .i64 e2, .bool (ng m3), .slice A3 (zl m3) c3, .int .i64 e3]) (i1 : IsN w (.slice A1 (zl m1) c1) m1.natAbs) (i2 : IsN w (.slice A2 (zl m2) c2) m2.natAbs) (i3 : IsN w (.slice A3 (zl m3) c3) m3.natAbs) (h1 : El lo hi m1 e1) (h2 : El lo hi m2 e2) (h3 : El lo hi m3 e3) (t : Nat) (ht : t < 3) : ∃ m e A c, w.cell? ⟨g, t * 3, none⟩ = some (.bool (ng m)) ∧ w.cell? ⟨g, t * 3 + 1, none⟩ = some (.slice A (zl m) c) ∧ w.cell? ⟨g, t * 3 + 2, none⟩ = some (.int .i64 e) ∧ IsN w (.slice A (zl m) c) m.natAbs ∧ El lo hi m e := by
  rcases (show t = 0 ∨ t = 1 ∨ t = 2 by omega) with rfl | rfl | rfl
  · exact ⟨m1, e1, A1, c1, h.cell 0, h.cell 1, h.cell 2, i1, h1⟩
  · exact ⟨m2, e2, A2, c2, h.cell 3, h.cell 4, h.cell 5, i2, h2⟩
  · exact ⟨m3, e3, A3, c3, h.cell 6, h.cell 7, h.cell 8, i3, h3⟩
theorem Lq.rebase {w0 w : World} {ns : List (Value × Nat)} {zs : List (Value × Int)} {qs : List (Value × Int × Nat)} {bs : List (Nat × TypeId × Array Value)} (h : Lq w0 w ns zs qs bs) : Lq w w ns zs qs bs := ⟨Below.refl _ _, h.ns, h.zs, h.qs, h.bs⟩
theorem has_true {M E N G a : Int} {d : Nat} {q : Rat} (hd : 0 < d) (hq : qOf (a, d) = q) (h1 : dq M E ≤ q) (h2 : q ≤ dq N G) : hasB M E N G a d = true := by
  rw [hasB_iff _ _ _ _ _ _ hd]
  rw [← hq] at h1 h2
  exact ⟨h1, h2⟩
theorem qn (q : Rat) : qOf (q.num, q.den) = q := qOf_num q

set_option maxHeartbeats 4000000 in
/-- What the law asks of two elements, all at once. -/
theorem pair_ok {m e n f m2 e2 n2 f2 M1 E1 N1 G1 M2 E2 N2 G2 M3 E3 N3 G3 r3 : Int} (b1 : (zl M1 ≤ 400 ∧ (-10000 ≤ E1 ∧ E1 ≤ 10000)) ∧ (zl N1 ≤ 400 ∧ (-10000 ≤ G1 ∧ G1 ≤ 10000))) (b2 : (zl M2 ≤ 400 ∧ (-10000 ≤ E2 ∧ E2 ≤ 10000)) ∧ (zl N2 ≤ 400 ∧ (-10000 ≤ G2 ∧ G2 ≤ 10000))) (b3 : (zl M3 ≤ 400 ∧ (-10000 ≤ E3 ∧ E3 ≤ 10000)) ∧ (zl N3 ≤ 400 ∧ (-10000 ≤ G3 ∧ G3 ≤ 10000)))
    (l1 : dq M1 E1 ≤ dq m e + dq m2 e2) (k1 : dq n f + dq n2 f2 ≤ dq N1 G1) (l2 : dq M2 E2 ≤ min4 (dq m e * dq m2 e2) (dq m e * dq n2 f2) (dq n f * dq m2 e2) (dq n f * dq n2 f2)) (k2 : max4 (dq m e * dq m2 e2) (dq m e * dq n2 f2) (dq n f * dq m2 e2) (dq n f * dq n2 f2) ≤ dq N2 G2) (h3 : r3 = 0 → cmpI m2 0 = cmpI n2 0 ∧ ¬ cmpI m2 0 = 0 ∧ dq M3 E3 ≤ min4 (dq m e / dq m2 e2) (dq m e / dq n2 f2) (dq n f / dq m2 e2) (dq n f / dq n2 f2) ∧ max4 (dq m e / dq m2 e2) (dq m e / dq n2 f2) (dq n f / dq m2 e2) (dq n f / dq n2 f2) ≤ dq N3 G3)
    {mc ec md ed : Int} (hc : El (dq m e) (dq n f) mc ec) (hd : El (dq m2 e2) (dq n2 f2) md ed) :
    ∃ (a1 : Int) (d1 : Nat) (a2 : Int) (d2 : Nat) (a5 : Int) (d5 : Nat) (a6 : Int) (d6 : Nat) (a7 : Int) (d7 : Nat) (e7 : Int),
      (∀ v W, IsD W v mc ec → Calls Tryz.prog 31 #[v] W (RetP W a1 d1)) ∧
      (∀ v W, IsD W v md ed → Calls Tryz.prog 31 #[v] W (RetP W a2 d2)) ∧
      (∀ v u W, IsP W v a1 d1 → IsP W u a2 d2 → Calls Tryz.prog 32 #[v, u] W (RetP W a5 d5)) ∧
      (∀ v u W, IsP W v a1 d1 → IsP W u a2 d2 → Calls Tryz.prog 33 #[v, u] W (RetP W a6 d6)) ∧
      (∀ v u W, IsI W v M1 E1 N1 G1 → IsP W u a5 d5 → Calls Tryz.prog 28 #[v, u] W (RetB W true)) ∧
      (∀ v u W, IsI W v M2 E2 N2 G2 → IsP W u a6 d6 → Calls Tryz.prog 28 #[v, u] W (RetB W true)) ∧
      (∀ v u W, IsP W v a1 d1 → IsP W u a2 d2 → Calls Tryz.prog 34 #[v, u] W (RetPE W a7 d7 e7)) ∧
      (r3 = 0 → e7 = 0 ∧ ∀ v u W, IsI W v M3 E3 N3 G3 → IsP W u a7 d7 → Calls Tryz.prog 28 #[v, u] W (RetB W true)) := by
  obtain ⟨hc1, hc2, lc, hec⟩ := hc
  obtain ⟨hd1, hd2, ld, hed⟩ := hd
  have x1 := zl_two mc ec.toNat
  have y1 := len_two (-ec).toNat
  have z1 := two_pos8 (-ec).toNat
  have x2 := zl_two md ed.toNat
  have y2 := len_two (-ed).toNat
  have z2 := two_pos8 (-ed).toNat
  have r1 := fun v W h => rrat8_any mc ec v W h (by omega) (by omega)
  have r2 := fun v W h => rrat8_any md ed v W h (by omega) (by omega)
  have qv1 : qOf (mc * 2 ^ ec.toNat, 2 ^ (-ec).toNat) = dq mc ec := rfl
  have qv2 : qOf (md * 2 ^ ed.toNat, 2 ^ (-ed).toNat) = dq md ed := rfl
  have nz : md ≠ 0 → md * 2 ^ ed.toNat ≠ 0 := fun h => Int.mul_ne_zero h (pow2_ne _)
  have zz : md = 0 → md * 2 ^ ed.toNat = 0 := fun h => by rw [h, Int.zero_mul]
  generalize mc * 2 ^ ec.toNat = a1 at *
  generalize 2 ^ (-ec).toNat = d1 at *
  generalize md * 2 ^ ed.toNat = a2 at *
  generalize 2 ^ (-ed).toNat = d2 at *
  have u1 : zl a1 ≤ 140 := by omega
  have u2 : zl a2 ≤ 140 := by omega
  have u3 : len d1 ≤ 60 := by omega
  have u4 : len d2 ≤ 60 := by omega
  clear x1 x2 y1 y2 lc hec ld hed
  have w1 : zl (d1 : Int) ≤ 60 := u3
  have w2 : zl (d2 : Int) ≤ 60 := u4
  have B : ∀ {x : Nat}, x ≤ 140 → x ≤ 1000000 := fun h => Nat.le_trans h (by decide)
  have C : ∀ {x : Nat}, x ≤ 60 → x ≤ 1000000 := fun h => Nat.le_trans h (by decide)
  have e5 : zl (a1 * (d2 : Int) + a2 * (d1 : Int)) ≤ 1000 := by
    have m1 := zl_mul a1 (d2 : Int)
    have m2' := zl_mul a2 (d1 : Int)
    have m3 := zl_add (a1 * (d2 : Int)) (a2 * (d1 : Int))
    clear l1 k1 l2 k2 h3 hc1 hc2 hd1 hd2 r1 r2 qv1 qv2 nz zz B C
    omega
  have e6 : zl (a1 * a2) ≤ 1000 := Nat.le_trans (zl_mul a1 a2) (by omega)
  have e7 : zl (a1 * (d2 : Int)) ≤ 1000 := Nat.le_trans (zl_mul a1 (d2 : Int)) (by omega)
  have e8 : zl ((d1 : Int) * (d2 : Int)) ≤ 1000 := Nat.le_trans (zl_mul (d1 : Int) (d2 : Int)) (by omega)
  have e9 : zl ((d1 : Int) * a2) ≤ 1000 := Nat.le_trans (zl_mul (d1 : Int) a2) (by omega)
  have n0 : (d1 : Int) * (d2 : Int) ≠ 0 := Int.mul_ne_zero (by omega) (by omega)
  have s5 := qt_low (m := a1 * (d2 : Int) + a2 * (d1 : Int)) (n := (d1 : Int) * (d2 : Int)) n0
  have s6 := qt_low (m := a1 * a2) (n := (d1 : Int) * (d2 : Int)) n0
  have B1 : (zl M1 ≤ 1000 ∧ (-20000 ≤ E1 ∧ E1 ≤ 20000)) ∧ (zl N1 ≤ 1000 ∧ (-20000 ≤ G1 ∧ G1 ≤ 20000)) := by clear l1 k1 l2 k2 h3 hc1 hc2 hd1 hd2 r1 r2 qv1 qv2 nz zz; omega
  have B2 : (zl M2 ≤ 1000 ∧ (-20000 ≤ E2 ∧ E2 ≤ 20000)) ∧ (zl N2 ≤ 1000 ∧ (-20000 ≤ G2 ∧ G2 ≤ 20000)) := by clear l1 k1 l2 k2 h3 hc1 hc2 hd1 hd2 r1 r2 qv1 qv2 nz zz; omega
  have B3 : (zl M3 ≤ 1000 ∧ (-20000 ≤ E3 ∧ E3 ≤ 20000)) ∧ (zl N3 ≤ 1000 ∧ (-20000 ≤ G3 ∧ G3 ≤ 20000)) := by clear l1 k1 l2 k2 h3 hc1 hc2 hd1 hd2 r1 r2 qv1 qv2 nz zz; omega
  have v5 := (q_add (a := a1) (b := a2) z1 z2)
  have v6 := q_mul a1 a2 d1 d2
  rw [qv1, qv2] at v5 v6
  have t5 := qn (Rat.divInt (a1 * (d2 : Int) + a2 * (d1 : Int)) ((d1 : Int) * (d2 : Int)))
  have t6 := qn (Rat.divInt (a1 * a2) ((d1 : Int) * (d2 : Int)))
  have mb := mul_between hc1 hc2 hd1 hd2
  have g5 := has_true (Rat.den_pos _) (t5.trans v5) (Rat.le_trans l1 (add_mono hc1 hd1)) (Rat.le_trans (add_mono hc2 hd2) k1)
  have g6 := has_true (Rat.den_pos _) (t6.trans v6) (Rat.le_trans l2 mb.1) (Rat.le_trans mb.2 k2)
  have p5 := fun v u W h1 h2 => radd7_any a1 d1 a2 d2 v u W h1 h2 (B u1) (C u3) (B u2) (C u4) z1 z2
  have p6 := fun v u W h1 h2 => rmul7_any a1 d1 a2 d2 v u W h1 h2 (B u1) (C u3) (B u2) (C u4) z1 z2
  have c5 := fun v u W h1 h2 => r10has_any M1 E1 N1 G1 _ _ v u W h1 h2 B1.1.1 B1.2.1 B1.1.2 B1.2.2 (Nat.le_trans s5.1 e5) (Nat.le_trans s5.2 e8)
  have c6 := fun v u W h1 h2 => r10has_any M2 E2 N2 G2 _ _ v u W h1 h2 B2.1.1 B2.2.1 B2.1.2 B2.2.2 (Nat.le_trans s6.1 e6) (Nat.le_trans s6.2 e8)
  rw [g5] at c5
  rw [g6] at c6
  by_cases hz : md = 0
  · have ha2 := zz hz
    subst ha2
    refine ⟨a1, d1, 0, d2, _, _, _, _, 0, 0, 2, r1, r2, p5, p6, c5, c6, fun v u W h1 h2 => rdiv7_zero a1 d1 d2 v u W h1 h2 (B u1) (C u3) (C u4) z1, fun h => ?_⟩
    obtain ⟨o1, o2, _, _⟩ := h3 h
    exfalso
    have hs := cmp_signs o1
    rw [hz, dq_zero] at hd1 hd2
    by_cases hx : cmpI m2 0 < 0
    · exact Rat.not_le.2 ((dq_lt0 n2 f2).2 (hs.1 hx).2) hd2
    · exact Rat.not_le.2 ((dq_gt0 m2 e2).2 (hs.2 hx o2).1) hd1
  · have hn := nz hz
    have n7 : (d1 : Int) * a2 ≠ 0 := Int.mul_ne_zero (by omega) hn
    have s7 := qt_low (m := a1 * (d2 : Int)) (n := (d1 : Int) * a2) n7
    have v7 := q_div (a := a1) (b := a2) (d := d1) (e := d2) z1 z2 hn
    rw [qv1, qv2] at v7
    have t7 := qn (Rat.divInt (a1 * (d2 : Int)) ((d1 : Int) * a2))
    refine ⟨a1, d1, a2, d2, _, _, _, _, _, _, 0, r1, r2, p5, p6, c5, c6, fun v u W h1 h2 => rdiv7_any a1 d1 a2 d2 v u W h1 h2 (B u1) (C u3) (B u2) (C u4) z1 hn, fun h => ⟨rfl, fun v u W h1 h2 => ?_⟩⟩
    obtain ⟨o1, o2, o3, o4⟩ := h3 h
    have hs := cmp_signs o1
    have sg : 0 < dq m2 e2 ∨ dq n2 f2 < 0 := by
      by_cases hx : cmpI m2 0 < 0
      · exact Or.inr ((dq_lt0 n2 f2).2 (hs.1 hx).2)
      · exact Or.inl ((dq_gt0 m2 e2).2 (hs.2 hx o2).1)
    have di := div_in hc1 hc2 hd1 hd2 sg
    have g7 := has_true (Rat.den_pos _) (t7.trans v7) (Rat.le_trans o3 di.1) (Rat.le_trans di.2 o4)
    have c7 := r10has_any M3 E3 N3 G3 _ _ v u W h1 h2 B3.1.1 B3.2.1 B3.1.2 B3.2.2 (Nat.le_trans s7.1 e7) (Nat.le_trans s7.2 e9)
    rwa [g7] at c7


end Go.Proofs.YtoobcngbnjeddaaGreatDoor
