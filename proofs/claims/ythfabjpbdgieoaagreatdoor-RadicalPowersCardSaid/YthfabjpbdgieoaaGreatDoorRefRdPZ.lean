/- The reference's Power. -/
import Derived.Test.YthfabjpbdgieoaaGreatDoorRdSZ
import Derived.Test.YthfabjpbdgieoaaGreatDoorRdQZ
import Derived.Test.YthfabjpbdgieoaaGreatDoorRdPEZ
import Derived.Test.YthfabjpbdgieoaaGreatDoorBaseWZ
import Derived.Test.YthfabjpbdgieoaaGreatDoorArAppZ
import Derived.Test.YthfabjpbdgieoaaGreatDoorBaseXZ
import Derived.Test.YthfabjpbdgieoaaGreatDoorBaseF
import Derived.Deep.RegionHeld3
import Derived.Deep.DrawnRows
namespace Go.Proofs.YthfabjpbdgieoaaGreatDoor
open Go.RowKit
set_option linter.unusedVariables false
set_option linter.unusedSimpArgs false
set_option maxRecDepth 100000
attribute [local go_sem ↓] Go.wp_at_zero Go.wp_at_succ

theorem lit6_ra {w : World} {a1 a2 : Int} {d1 d2 : Nat} {A1 B1 A2 B2 : Option Addr} {c1 k1 c2 k2 : Nat} (h1 : IsP w (.agg #[.bool (ng a1), .slice A1 (zl a1) c1, .slice B1 (len d1) k1]) a1 d1) (h2 : IsP w (.agg #[.bool (ng a2), .slice A2 (zl a2) c2, .slice B2 (len d2) k2]) a2 d2) : OwnRa (w.alloc (.cells #[.bool (ng a1), .slice A1 (zl a1) c1, .slice B1 (len d1) k1, .bool (ng a2), .slice A2 (zl a2) c2, .slice B2 (len d2) k2] 57)) w.heap.size (.slice (some ⟨w.heap.size, 0, none⟩) 2 2) [(a1, d1), (a2, d2)] := by
  have hb : Below w.heap.size w (w.alloc (.cells #[.bool (ng a1), .slice A1 (zl a1) c1, .slice B1 (len d1) k1, .bool (ng a2), .slice A2 (zl a2) c2, .slice B2 (len d2) k2] 57)) := (Below.refl _ w).alloc (Nat.le_refl _) _
  refine ⟨[.bool (ng a1), .slice A1 (zl a1) c1, .slice B1 (len d1) k1, .bool (ng a2), .slice A2 (zl a2) c2, .slice B2 (len d2) k2], ⟨World.ownsRow_lit w #[.bool (ng a1), .slice A1 (zl a1) c1, .slice B1 (len d1) k1, .bool (ng a2), .slice A2 (zl a2) c2, .slice B2 (len d2) k2] 2 (Nat.le_refl _) (by unfold maxLen; omega) rfl, fun g hg => ?_⟩, fun j p hp => ?_⟩
  · obtain rfl : w.heap.size = g := by simpa [Value.ownBlock] using hg
    refine noDig_row (heap_alloc_new w _) (fun u hu x => ?_)
    simp only [List.mem_toArray, List.mem_cons, List.not_mem_nil, or_false] at hu
    rcases hu with rfl | rfl | rfl | rfl | rfl | rfl <;> simp
  · match j with
    | 0 =>
      obtain rfl : (a1, d1) = p := by simpa using hp
      exact ⟨A1, c1, B1, k1, rfl, rfl, rfl, h1.mono hb⟩
    | 1 =>
      obtain rfl : (a2, d2) = p := by simpa using hp
      exact ⟨A2, c2, B2, k2, rfl, rfl, rfl, h2.mono hb⟩
    | j + 2 => simp at hp
theorem lit3_cells12 (w : World) (a b c : Value) (ty : TypeId) (g : Nat) (hg : w.heap.size = g) : ∀ (j : Nat) (u : Value), [a, b, c][j]? = some u → (w.alloc (.cells #[a, b, c] ty)).cell? ⟨g, j, none⟩ = some u := fun j u hj => by
  subst hg
  rw [cell_of_row _ w.heap.size j #[a, b, c] ty _ (heap_alloc_new w _)]
  simpa using hj
/-- The least and the greatest of the powers that the reference takes: without zero. -/
theorem im_two {s : Bool} {a b : Rat} {j : Int} {p q : Int × Nat} (hp : qOf p = pw a j) (hq : qOf q = pw b j) (h : s = true ∨ (s = false ∧ a ≤ 0 ∧ 0 ≤ b ∧ (j = 0 ∨ (0 < j ∧ j % 2 = 1)))) : IsLeast (plo s a b j) [p, q] ∧ IsMost (phi s a b j) [p, q] := by
  have l := plo_le s a b j
  have u := le_phi s a b j
  have hz : s = false → ((∃ r ∈ [p, q], qOf r = plo s a b j) ∧ ∃ r ∈ [p, q], qOf r = phi s a b j) := fun hs => by
    subst hs
    rcases h with h | ⟨_, h1, h2, h3⟩
    · cases h
    have e : plo false a b j = pw a j ∧ phi false a b j = pw b j := by
      rcases h3 with h3 | ⟨h3, h4⟩
      · subst h3
        have e0 : ∀ x, pw x 0 = 1 := fun x => rfl
        unfold plo phi
        rw [if_neg (by decide), if_neg (by decide), e0, e0, e0]
        constructor <;> rfl
      · obtain ⟨k, hk⟩ : ∃ k : Nat, j = (k : Int) := ⟨j.toNat, by omega⟩
        subst hk
        have z0 : pw 0 (k : Int) = 0 := by rw [pw_nat, qpow_zero (by omega)]
        have za : pw a (k : Int) ≤ 0 := by
          have := qpow_nn (neg_nn h1) k
          rw [(qpow_par k).2 (by omega)] at this
          have := Rat.neg_le_neg this
          rw [Rat.neg_neg, Rat.neg_zero] at this
          rw [pw_nat]; exact this
        have zb : 0 ≤ pw b (k : Int) := by rw [pw_nat]; exact qpow_nn h2 k
        unfold plo phi
        rw [if_neg (by decide), if_neg (by decide), z0]
        exact ⟨Rat.le_antisymm (Rat.le_trans (rmin_l _ _) (rmin_l _ _)) (le_rmin (le_rmin Rat.le_refl za) (Rat.le_trans za zb)), Rat.le_antisymm (rmax_le (rmax_le (Rat.le_trans za zb) zb) Rat.le_refl) (rmax_r _ _)⟩
    exact ⟨⟨p, by simp, by rw [hp, e.1]⟩, ⟨q, by simp, by rw [hq, e.2]⟩⟩
  have hex : (∃ r ∈ [p, q], qOf r = plo s a b j) ∧ ∃ r ∈ [p, q], qOf r = phi s a b j := by
    cases s
    · exact hz rfl
    · constructor
      · obtain ⟨y, hy, e⟩ := plo_or true a b j
        rcases hy with rfl | rfl | ⟨_, h9⟩
        · exact ⟨p, by simp, by rw [hp, e]⟩
        · exact ⟨q, by simp, by rw [hq, e]⟩
        · cases h9
      · obtain ⟨y, hy, e⟩ := phi_or true a b j
        rcases hy with rfl | rfl | ⟨_, h9⟩
        · exact ⟨p, by simp, by rw [hp, e]⟩
        · exact ⟨q, by simp, by rw [hq, e]⟩
        · cases h9
  refine ⟨⟨hex.1, fun r hr => ?_⟩, hex.2, fun r hr => ?_⟩
  · simp only [List.mem_cons, List.not_mem_nil, or_false] at hr
    rcases hr with rfl | rfl
    · rw [hp]; exact l.1
    · rw [hq]; exact l.2.1
  · simp only [List.mem_cons, List.not_mem_nil, or_false] at hr
    rcases hr with rfl | rfl
    · rw [hp]; exact u.1
    · rw [hq]; exact u.2.1
/-- With zero, for an even exponent. -/
theorem im_three {s : Bool} {a b : Rat} {j : Int} {p q : Int × Nat} (hp : qOf p = pw a j) (hq : qOf q = pw b j) (h0 : 0 < j) (hs : s = true → a = 0 ∧ b = 0) : IsLeast (plo s a b j) [p, q, (0, 1)] ∧ IsMost (phi s a b j) [p, q, (0, 1)] := by
  have l := plo_le s a b j
  have u := le_phi s a b j
  have z0 : pw 0 j = 0 := by
    obtain ⟨k, hk⟩ : ∃ k : Nat, j = (k : Int) := ⟨j.toNat, by omega⟩
    rw [hk, pw_nat, qpow_zero (by omega)]
  have zq : qOf (0, 1) = 0 := Rat.zero_divInt _
  have hl0 : plo s a b j ≤ 0 := by
    cases s
    · have := l.2.2 rfl; rwa [z0] at this
    · have h9 : pw a j = 0 := by rw [(hs rfl).1, z0]
      have := l.1
      rwa [h9] at this
  have hu0 : 0 ≤ phi s a b j := by
    cases s
    · have := u.2.2 rfl; rwa [z0] at this
    · have h9 : pw a j = 0 := by rw [(hs rfl).1, z0]
      have := u.1
      rwa [h9] at this
  constructor
  · refine ⟨?_, fun r hr => ?_⟩
    · obtain ⟨y, hy, e⟩ := plo_or s a b j
      rcases hy with rfl | rfl | ⟨rfl, _⟩
      · exact ⟨p, by simp, by rw [hp, e]⟩
      · exact ⟨q, by simp, by rw [hq, e]⟩
      · exact ⟨(0, 1), by simp, by rw [zq, e, z0]⟩
    · simp only [List.mem_cons, List.not_mem_nil, or_false] at hr
      rcases hr with rfl | rfl | rfl
      · rw [hp]; exact l.1
      · rw [hq]; exact l.2.1
      · rw [zq]; exact hl0
  · refine ⟨?_, fun r hr => ?_⟩
    · obtain ⟨y, hy, e⟩ := phi_or s a b j
      rcases hy with rfl | rfl | ⟨rfl, _⟩
      · exact ⟨p, by simp, by rw [hp, e]⟩
      · exact ⟨q, by simp, by rw [hq, e]⟩
      · exact ⟨(0, 1), by simp, by rw [zq, e, z0]⟩
    · simp only [List.mem_cons, List.not_mem_nil, or_false] at hr
      rcases hr with rfl | rfl | rfl
      · rw [hp]; exact u.1
      · rw [hq]; exact u.2.1
      · rw [zq]; exact hu0

set_option maxHeartbeats 64000000 in
theorem rpw12_any (m e n f j k : Int) (vx : Value) (w : World) (hx : IsI w vx m e n f) (lm : zl m ≤ 400) (ln : zl n ≤ 400) (he : -10000 ≤ e ∧ e ≤ 10000) (hf : -10000 ≤ f ∧ f ≤ 10000) (hv : Dv m e) (hv2 : Dv n f) (hd : dcm m e n f ≤ 0) (hpb : powB j = true → PB m e j ∧ PB n f j) (hk1 : -9223372036854775808 ≤ k) (hk2 : k ≤ 9223372036854775807) :
    Calls Tryz.prog 28 #[vx, .int .i64 j, .int .i64 k] w (RetPw w m e n f j k) := by
  obtain ⟨A, c, B, d, rfl, hn1, hn2⟩ := hx.form
  have L0 := ((Lq.mk0 w).n hn2).n hn1
  have HW0 := fun W => rwork_any k W
  have g1 := fun v W h => r10sign_any m e n f v W h (by omega) (by omega) (by omega) (by omega)
  have HPB := Lib.hid hpb
  unfold RetSg at g1
  obtain ⟨sc1, sc2⟩ := sg_cases hd
  have l1 := len_le1 (show 1 < 4294967296 by omega)
  have z0 : zl 0 ≤ 1 := by rw [zl_zero]; omega
  have gh := fun v u W h1 h2 => r10has_any m e n f 0 1 v u W h1 h2 (by omega) (by omega) (by omega) (by omega) (by omega) (by omega)
  have hh := hasB_iff m e n f 0 1 (by omega)
  rw [show Rat.divInt 0 ((1 : Nat) : Int) = 0 from Rat.zero_divInt _] at hh
  have HO := Lib.hid (fun W => (show Calls Tryz.prog 66 #[.int .i64 0] W (RetP W 0 1) from rofn7_any 0 W (by omega) (by omega)))
  have hne := sg_ne (m := m) (n := n)
  have HX := Lib.hid (fun (hb : PB m e j) (h0 : j < 0 → m ≠ 0) => rpow_pair hv hb h0)
  have HY := Lib.hid (fun (hb : PB n f j) (h0 : j < 0 → n ≠ 0) => rpow_pair hv2 hb h0)
  have HR1 := Lib.hid (fun v W h => (show Calls Tryz.prog 32 #[v] W (RetP W (m * 2 ^ e.toNat) (2 ^ (-e).toNat)) from rrat8_any m e v W h (by omega) (by omega)))
  have HR2 := Lib.hid (fun v W h => (show Calls Tryz.prog 32 #[v] W (RetP W (n * 2 ^ f.toNat) (2 ^ (-f).toNat)) from rrat8_any n f v W h (by omega) (by omega)))
  unfold RetPw
  obtain ⟨sv, hsv⟩ : ∃ z, sgV m n = z := ⟨_, rfl⟩
  obtain ⟨sb, hsb⟩ : ∃ z, sgB m n = z := ⟨_, rfl⟩
  rw [show (if cmpI m 0 = cmpI n 0 then cmpI m 0 else 0) = sv from hsv, show decide (cmpI m 0 = cmpI n 0) = sb from hsb] at g1
  rw [hsv, hsb] at sc2 ⊢
  rw [hsb] at sc1
  have hnz : sb = true → sv ≠ 0 → m ≠ 0 ∧ n ≠ 0 := fun h1 h2 => by
    have h3 : cmpI m 0 = cmpI n 0 := of_decide_eq_true (hsb.trans h1)
    refine hne h3 (fun h4 => h2 ?_)
    rw [← hsv]
    unfold sgV
    rw [if_pos h3, h4]
  have HS := Lib.hid g1
  clear g1 hx hn1 hn2 lm ln he hf hv hv2 hd hpb hne l1 z0 hsv hsb
  cases hw : workB k
  · rw [Bool.false_and, if_neg (by decide)]
    rw [hw] at HW0
    have HW := Lib.hid HW0
    clear HW0 hw gh hh sc1 sc2 hnz HX HY HPB
    go_enter Tryz.func28, Tryz.ntmps28
    go_wp2_with fail
    have L := ((L0.varI (w.heap.size) (by simp) (ng m) A (zl m) c e (ng n) B (zl n) d f).varI (w.heap.size + 1) (by simp) false none 0 0 0 false none 0 0 0)
    have c00 := L.b0.c60
    have f00 := L.b0.fr 0
    have c01 := L.b0.c61
    have f01 := L.b0.fr 1
    have c02 := L.b0.c62
    have f02 := L.b0.fr 2
    have c03 := L.b0.c63
    have f03 := L.b0.fr 3
    have c04 := L.b0.c64
    have f04 := L.b0.fr 4
    have c05 := L.b0.c65
    have f05 := L.b0.fr 5
    have c10 := L.tl.b0.c60
    have c11 := L.tl.b0.c61
    have c12 := L.tl.b0.c62
    have c13 := L.tl.b0.c63
    have c14 := L.tl.b0.c64
    have c15 := L.tl.b0.c65
    (try go_wp2_with fail)
    refine (HS.out _ _ (isI_n (m := m) (e := e) (n := n) (f := f) (L.getN (v := .slice A (zl m) c) (x := (m).natAbs) (by simp)) (L.getN (v := .slice B (zl n) d) (x := (n).natAbs) (by simp)))).mono ?_
    rintro e w1 ⟨rfl, be⟩
    clear c00 f00 c01 f01 c02 f02 c03 f03 c04 f04 c05 f05 c10 c11 c12 c13 c14 c15
    replace L := L.step be
    clear be
    have c00 := L.b0.c60
    have f00 := L.b0.fr 0
    have c01 := L.b0.c61
    have f01 := L.b0.fr 1
    have c02 := L.b0.c62
    have f02 := L.b0.fr 2
    have c03 := L.b0.c63
    have f03 := L.b0.fr 3
    have c04 := L.b0.c64
    have f04 := L.b0.fr 4
    have c05 := L.b0.c65
    have f05 := L.b0.fr 5
    have c10 := L.tl.b0.c60
    have c11 := L.tl.b0.c61
    have c12 := L.tl.b0.c62
    have c13 := L.tl.b0.c63
    have c14 := L.tl.b0.c64
    have c15 := L.tl.b0.c65
    (try go_wp2_with fail)
    refine (HW.out _).mono ?_
    rintro e9 w' ⟨rfl, rfl⟩
    (try go_wp2_with fail)
    have LP := L.putI (by omega) (by first | (simp; done) | (simp; omega)) false none 0 0 0 false none 0 0 0
    have k0 := LP.b0.c60
    have k1 := LP.b0.c61
    have k2 := LP.b0.c62
    have k3 := LP.b0.c63
    have k4 := LP.b0.c64
    have k5 := LP.b0.c65
    unfold put6 at k0 k1 k2 k3 k4 k5
    exact bodyPost_ret (v := .tuple #[.agg #[.bool false, .slice none 0 0, .int .i64 0, .bool false, .slice none 0 0, .int .i64 0], .int .i64 1]) (by simp [results, Tryz.results28, go_sem, k0, k1, k2, k3, k4, k5]) rfl (RetIE.z LP.below _)
  · rw [hw] at HW0
    have HW := Lib.hid HW0
    clear HW0
    by_cases ja : j < -64
    · have hp : powB j = false := by unfold powB; rw [decide_eq_false (show ¬ -64 ≤ j by omega)]; rfl
      rw [hp, Bool.and_false, if_neg (by decide)]
      have b1 : decide (j < -64) = true := decide_eq_true ja
      clear hw gh hh sc1 sc2 hnz HX HY HPB hp
      go_enter Tryz.func28, Tryz.ntmps28
      go_wp2_with fail
      have L := ((L0.varI (w.heap.size) (by simp) (ng m) A (zl m) c e (ng n) B (zl n) d f).varI (w.heap.size + 1) (by simp) false none 0 0 0 false none 0 0 0)
      have c00 := L.b0.c60
      have f00 := L.b0.fr 0
      have c01 := L.b0.c61
      have f01 := L.b0.fr 1
      have c02 := L.b0.c62
      have f02 := L.b0.fr 2
      have c03 := L.b0.c63
      have f03 := L.b0.fr 3
      have c04 := L.b0.c64
      have f04 := L.b0.fr 4
      have c05 := L.b0.c65
      have f05 := L.b0.fr 5
      have c10 := L.tl.b0.c60
      have c11 := L.tl.b0.c61
      have c12 := L.tl.b0.c62
      have c13 := L.tl.b0.c63
      have c14 := L.tl.b0.c64
      have c15 := L.tl.b0.c65
      (try go_wp2_with fail)
      refine (HS.out _ _ (isI_n (m := m) (e := e) (n := n) (f := f) (L.getN (v := .slice A (zl m) c) (x := (m).natAbs) (by simp)) (L.getN (v := .slice B (zl n) d) (x := (n).natAbs) (by simp)))).mono ?_
      rintro e w1 ⟨rfl, be⟩
      clear c00 f00 c01 f01 c02 f02 c03 f03 c04 f04 c05 f05 c10 c11 c12 c13 c14 c15
      replace L := L.step be
      clear be
      have c00 := L.b0.c60
      have f00 := L.b0.fr 0
      have c01 := L.b0.c61
      have f01 := L.b0.fr 1
      have c02 := L.b0.c62
      have f02 := L.b0.fr 2
      have c03 := L.b0.c63
      have f03 := L.b0.fr 3
      have c04 := L.b0.c64
      have f04 := L.b0.fr 4
      have c05 := L.b0.c65
      have f05 := L.b0.fr 5
      have c10 := L.tl.b0.c60
      have c11 := L.tl.b0.c61
      have c12 := L.tl.b0.c62
      have c13 := L.tl.b0.c63
      have c14 := L.tl.b0.c64
      have c15 := L.tl.b0.c65
      (try go_wp2_with fail)
      refine (HW.out _).mono ?_
      rintro e9 w' ⟨rfl, rfl⟩
      (try go_wp2_with fail)
      have LP := L.putI (by omega) (by first | (simp; done) | (simp; omega)) false none 0 0 0 false none 0 0 0
      have k0 := LP.b0.c60
      have k1 := LP.b0.c61
      have k2 := LP.b0.c62
      have k3 := LP.b0.c63
      have k4 := LP.b0.c64
      have k5 := LP.b0.c65
      unfold put6 at k0 k1 k2 k3 k4 k5
      exact bodyPost_ret (v := .tuple #[.agg #[.bool false, .slice none 0 0, .int .i64 0, .bool false, .slice none 0 0, .int .i64 0], .int .i64 1]) (by simp [results, Tryz.results28, go_sem, k0, k1, k2, k3, k4, k5]) rfl (RetIE.z LP.below _)
    · have b1 : decide (j < -64) = false := decide_eq_false ja
      by_cases jb : 64 < j
      · have hp : powB j = false := by unfold powB; rw [decide_eq_false (show ¬ j ≤ 64 by omega), Bool.and_false]
        rw [hp, Bool.and_false, if_neg (by decide)]
        have b2 : decide (64 < j) = true := decide_eq_true jb
        clear hw gh hh sc1 sc2 hnz HX HY HPB hp ja
        go_enter Tryz.func28, Tryz.ntmps28
        go_wp2_with fail
        have L := ((L0.varI (w.heap.size) (by simp) (ng m) A (zl m) c e (ng n) B (zl n) d f).varI (w.heap.size + 1) (by simp) false none 0 0 0 false none 0 0 0)
        have c00 := L.b0.c60
        have f00 := L.b0.fr 0
        have c01 := L.b0.c61
        have f01 := L.b0.fr 1
        have c02 := L.b0.c62
        have f02 := L.b0.fr 2
        have c03 := L.b0.c63
        have f03 := L.b0.fr 3
        have c04 := L.b0.c64
        have f04 := L.b0.fr 4
        have c05 := L.b0.c65
        have f05 := L.b0.fr 5
        have c10 := L.tl.b0.c60
        have c11 := L.tl.b0.c61
        have c12 := L.tl.b0.c62
        have c13 := L.tl.b0.c63
        have c14 := L.tl.b0.c64
        have c15 := L.tl.b0.c65
        (try go_wp2_with fail)
        refine (HS.out _ _ (isI_n (m := m) (e := e) (n := n) (f := f) (L.getN (v := .slice A (zl m) c) (x := (m).natAbs) (by simp)) (L.getN (v := .slice B (zl n) d) (x := (n).natAbs) (by simp)))).mono ?_
        rintro e w1 ⟨rfl, be⟩
        clear c00 f00 c01 f01 c02 f02 c03 f03 c04 f04 c05 f05 c10 c11 c12 c13 c14 c15
        replace L := L.step be
        clear be
        have c00 := L.b0.c60
        have f00 := L.b0.fr 0
        have c01 := L.b0.c61
        have f01 := L.b0.fr 1
        have c02 := L.b0.c62
        have f02 := L.b0.fr 2
        have c03 := L.b0.c63
        have f03 := L.b0.fr 3
        have c04 := L.b0.c64
        have f04 := L.b0.fr 4
        have c05 := L.b0.c65
        have f05 := L.b0.fr 5
        have c10 := L.tl.b0.c60
        have c11 := L.tl.b0.c61
        have c12 := L.tl.b0.c62
        have c13 := L.tl.b0.c63
        have c14 := L.tl.b0.c64
        have c15 := L.tl.b0.c65
        (try go_wp2_with fail)
        refine (HW.out _).mono ?_
        rintro e9 w' ⟨rfl, rfl⟩
        (try go_wp2_with fail)
        have LP := L.putI (by omega) (by first | (simp; done) | (simp; omega)) false none 0 0 0 false none 0 0 0
        have k0 := LP.b0.c60
        have k1 := LP.b0.c61
        have k2 := LP.b0.c62
        have k3 := LP.b0.c63
        have k4 := LP.b0.c64
        have k5 := LP.b0.c65
        unfold put6 at k0 k1 k2 k3 k4 k5
        exact bodyPost_ret (v := .tuple #[.agg #[.bool false, .slice none 0 0, .int .i64 0, .bool false, .slice none 0 0, .int .i64 0], .int .i64 1]) (by simp [results, Tryz.results28, go_sem, k0, k1, k2, k3, k4, k5]) rfl (RetIE.z LP.below _)
      · have b2 : decide (64 < j) = false := decide_eq_false jb
        have hp : powB j = true := by unfold powB; rw [decide_eq_true (show -64 ≤ j by omega), decide_eq_true (show j ≤ 64 by omega)]; rfl
        obtain ⟨pb1, pb2⟩ := HPB.out hp
        rw [hp, Bool.and_true, if_pos rfl]
        clear HPB hp ja jb
        by_cases hj : j < 0
        · have b3 : decide (j < 0) = true := decide_eq_true hj
          cases sb
          · rw [if_neg (by rintro ⟨_, h, _⟩; cases h), if_pos ⟨hj, rfl⟩]
            have hx1 : hasB m e n f 0 1 = true := hh.2 (sc1 rfl)
            rw [hx1] at gh
            have HH := Lib.hid gh
            clear gh hh hx1 sc1 sc2 hnz HX HY hw pb1 pb2 hj
            go_enter Tryz.func28, Tryz.ntmps28
            go_wp2_with fail
            have L := ((L0.varI (w.heap.size) (by simp) (ng m) A (zl m) c e (ng n) B (zl n) d f).varI (w.heap.size + 1) (by simp) false none 0 0 0 false none 0 0 0)
            have c00 := L.b0.c60
            have f00 := L.b0.fr 0
            have c01 := L.b0.c61
            have f01 := L.b0.fr 1
            have c02 := L.b0.c62
            have f02 := L.b0.fr 2
            have c03 := L.b0.c63
            have f03 := L.b0.fr 3
            have c04 := L.b0.c64
            have f04 := L.b0.fr 4
            have c05 := L.b0.c65
            have f05 := L.b0.fr 5
            have c10 := L.tl.b0.c60
            have c11 := L.tl.b0.c61
            have c12 := L.tl.b0.c62
            have c13 := L.tl.b0.c63
            have c14 := L.tl.b0.c64
            have c15 := L.tl.b0.c65
            (try go_wp2_with fail)
            refine (HS.out _ _ (isI_n (m := m) (e := e) (n := n) (f := f) (L.getN (v := .slice A (zl m) c) (x := (m).natAbs) (by simp)) (L.getN (v := .slice B (zl n) d) (x := (n).natAbs) (by simp)))).mono ?_
            rintro e w1 ⟨rfl, be⟩
            clear c00 f00 c01 f01 c02 f02 c03 f03 c04 f04 c05 f05 c10 c11 c12 c13 c14 c15
            replace L := L.step be
            clear be
            have c10 := L.tl.b0.c60
            have c11 := L.tl.b0.c61
            have c12 := L.tl.b0.c62
            have c13 := L.tl.b0.c63
            have c14 := L.tl.b0.c64
            have c15 := L.tl.b0.c65
            (try go_wp2_with fail)
            refine (HW.out _).mono ?_
            rintro e9 w' ⟨rfl, rfl⟩
            (try go_wp2_with fail)
            replace L := L.drew
            clear c10 c11 c12 c13 c14 c15
            have c10 := L.tl.b0.c60
            have c11 := L.tl.b0.c61
            have c12 := L.tl.b0.c62
            have c13 := L.tl.b0.c63
            have c14 := L.tl.b0.c64
            have c15 := L.tl.b0.c65
            go_region_held3 (fun w' => w'.cell? ⟨w.heap.size, 0, none⟩ = some (.bool (ng m)) ∧ w'.cell? ⟨w.heap.size, 1, none⟩ = some (.slice A (zl m) c) ∧ w'.cell? ⟨w.heap.size, 2, none⟩ = some (.int .i64 e) ∧ w'.cell? ⟨w.heap.size, 3, none⟩ = some (.bool (ng n)) ∧ w'.cell? ⟨w.heap.size, 4, none⟩ = some (.slice B (zl n) d) ∧ w'.cell? ⟨w.heap.size, 5, none⟩ = some (.int .i64 f)) (first | (with_reducible exact ⟨L.tl.b0.c60, L.tl.b0.c61, L.tl.b0.c62, L.tl.b0.c63, L.tl.b0.c64, L.tl.b0.c65⟩) | exact ⟨L.tl.b0.c60, L.tl.b0.c61, L.tl.b0.c62, L.tl.b0.c63, L.tl.b0.c64, L.tl.b0.c65⟩) (first | (go_at_call 66; (with_reducible refine (HO.out _ ).mono ?_); rintro e wh ⟨vh, rfl, iq, be⟩; replace L := (L.step be).q iq; clear be iq) | (go_at_call 33; (with_reducible refine (HH.out _ _ _ ?_ ?_ ).mono ?_); (· (refine isI_n (L.getN ?_) (L.getN ?_) <;> (repeat (first | (with_reducible exact List.mem_cons_self) | apply List.mem_cons_of_mem)))); (· (refine L.getQ ?_; (repeat (first | (with_reducible exact List.mem_cons_self) | apply List.mem_cons_of_mem)))); rintro e wh ⟨rfl, be⟩; replace L := L.step be; clear be))
            clear c10 c11 c12 c13 c14 c15
            have c00 := L.b0.c60
            have f00 := L.b0.fr 0
            have c01 := L.b0.c61
            have f01 := L.b0.fr 1
            have c02 := L.b0.c62
            have f02 := L.b0.fr 2
            have c03 := L.b0.c63
            have f03 := L.b0.fr 3
            have c04 := L.b0.c64
            have f04 := L.b0.fr 4
            have c05 := L.b0.c65
            have f05 := L.b0.fr 5
            (try go_wp2_with fail)
            have LP := L.putI (by omega) (by first | (simp; done) | (simp; omega)) false none 0 0 0 false none 0 0 0
            have k0 := LP.b0.c60
            have k1 := LP.b0.c61
            have k2 := LP.b0.c62
            have k3 := LP.b0.c63
            have k4 := LP.b0.c64
            have k5 := LP.b0.c65
            unfold put6 at k0 k1 k2 k3 k4 k5
            exact bodyPost_ret (v := .tuple #[.agg #[.bool false, .slice none 0 0, .int .i64 0, .bool false, .slice none 0 0, .int .i64 0], .int .i64 5]) (by simp [results, Tryz.results28, go_sem, k0, k1, k2, k3, k4, k5]) rfl (RetIE.z LP.below _)
          · rw [if_neg (show ¬ (j < 0 ∧ true = false) from by rintro ⟨_, h⟩; cases h)]
            by_cases hv0 : sv = 0
            · rw [if_pos ⟨hj, rfl, hv0⟩]
              have b4 : (sv == 0) = true := by simpa using hv0
              clear gh hh sc1 sc2 hnz HX HY hw pb1 pb2 hj hv0
              go_enter Tryz.func28, Tryz.ntmps28
              go_wp2_with fail
              have L := ((L0.varI (w.heap.size) (by simp) (ng m) A (zl m) c e (ng n) B (zl n) d f).varI (w.heap.size + 1) (by simp) false none 0 0 0 false none 0 0 0)
              have c00 := L.b0.c60
              have f00 := L.b0.fr 0
              have c01 := L.b0.c61
              have f01 := L.b0.fr 1
              have c02 := L.b0.c62
              have f02 := L.b0.fr 2
              have c03 := L.b0.c63
              have f03 := L.b0.fr 3
              have c04 := L.b0.c64
              have f04 := L.b0.fr 4
              have c05 := L.b0.c65
              have f05 := L.b0.fr 5
              have c10 := L.tl.b0.c60
              have c11 := L.tl.b0.c61
              have c12 := L.tl.b0.c62
              have c13 := L.tl.b0.c63
              have c14 := L.tl.b0.c64
              have c15 := L.tl.b0.c65
              (try go_wp2_with fail)
              refine (HS.out _ _ (isI_n (m := m) (e := e) (n := n) (f := f) (L.getN (v := .slice A (zl m) c) (x := (m).natAbs) (by simp)) (L.getN (v := .slice B (zl n) d) (x := (n).natAbs) (by simp)))).mono ?_
              rintro e w1 ⟨rfl, be⟩
              clear c00 f00 c01 f01 c02 f02 c03 f03 c04 f04 c05 f05 c10 c11 c12 c13 c14 c15
              replace L := L.step be
              clear be
              have c00 := L.b0.c60
              have f00 := L.b0.fr 0
              have c01 := L.b0.c61
              have f01 := L.b0.fr 1
              have c02 := L.b0.c62
              have f02 := L.b0.fr 2
              have c03 := L.b0.c63
              have f03 := L.b0.fr 3
              have c04 := L.b0.c64
              have f04 := L.b0.fr 4
              have c05 := L.b0.c65
              have f05 := L.b0.fr 5
              have c10 := L.tl.b0.c60
              have c11 := L.tl.b0.c61
              have c12 := L.tl.b0.c62
              have c13 := L.tl.b0.c63
              have c14 := L.tl.b0.c64
              have c15 := L.tl.b0.c65
              (try go_wp2_with fail)
              refine (HW.out _).mono ?_
              rintro e9 w' ⟨rfl, rfl⟩
              (try go_wp2_with fail)
              have LP := L.putI (by omega) (by first | (simp; done) | (simp; omega)) false none 0 0 0 false none 0 0 0
              have k0 := LP.b0.c60
              have k1 := LP.b0.c61
              have k2 := LP.b0.c62
              have k3 := LP.b0.c63
              have k4 := LP.b0.c64
              have k5 := LP.b0.c65
              unfold put6 at k0 k1 k2 k3 k4 k5
              exact bodyPost_ret (v := .tuple #[.agg #[.bool false, .slice none 0 0, .int .i64 0, .bool false, .slice none 0 0, .int .i64 0], .int .i64 2]) (by simp [results, Tryz.results28, go_sem, k0, k1, k2, k3, k4, k5]) rfl (RetIE.z LP.below _)
            · rw [if_neg (fun h => hv0 h.2.2)]
              have b4 : (sv == 0) = false := by simpa using hv0
              obtain ⟨n1, n2⟩ := hnz rfl hv0
              have b5 : decide (0 < j) = false := decide_eq_false (by omega)
              obtain ⟨a1, d1, o1, q1, q2, q3, x1⟩ := HX.out pb1 (fun _ => n1)
              obtain ⟨a2, d2, o2, q4, q5, q6, x2⟩ := HY.out pb2 (fun _ => n2)
              obtain ⟨i1, i2⟩ := im_two (s := true) (p := (a1, d1)) (q := (a2, d2)) q3 q6 (Or.inl rfl)
              have hbs9 : ∀ p ∈ [(a1, d1), (a2, d2)], zl p.1 ≤ 800 ∧ len p.2 ≤ 800 ∧ 0 < p.2 := fun p hp => by
                simp only [List.mem_cons, List.not_mem_nil, or_false] at hp
                rcases hp with rfl | rfl
                · exact ⟨q1, q2, o1⟩
                · exact ⟨q4, q5, o2⟩
              have HEN := Lib.hid (fun v W (h : RowR W v [(a1, d1), (a2, d2)]) => rencl_any [(a1, d1), (a2, d2)] _ _ k v W h (by simp) (by simp) hbs9 i1 i2 hk1 hk2)
              obtain ⟨lo, hlo⟩ : ∃ z, plo true (dq m e) (dq n f) j = z := ⟨_, rfl⟩
              obtain ⟨hi, hhi⟩ : ∃ z, phi true (dq m e) (dq n f) j = z := ⟨_, rfl⟩
              rw [hlo, hhi] at HEN ⊢
              have X1 := Lib.hid x1
              have X2 := Lib.hid x2
              clear x1 x2 o1 o2 q1 q2 q3 q4 q5 q6 i1 i2 hlo hhi sc1 sc2 hnz HX HY hw pb1 pb2 hj hk1 hk2 hbs9 gh hh n1 n2 hv0
              go_enter Tryz.func28, Tryz.ntmps28
              go_wp2_with fail
              have L := ((L0.varI (w.heap.size) (by simp) (ng m) A (zl m) c e (ng n) B (zl n) d f).varI (w.heap.size + 1) (by simp) false none 0 0 0 false none 0 0 0)
              have c00 := L.b0.c60
              have f00 := L.b0.fr 0
              have c01 := L.b0.c61
              have f01 := L.b0.fr 1
              have c02 := L.b0.c62
              have f02 := L.b0.fr 2
              have c03 := L.b0.c63
              have f03 := L.b0.fr 3
              have c04 := L.b0.c64
              have f04 := L.b0.fr 4
              have c05 := L.b0.c65
              have f05 := L.b0.fr 5
              have c10 := L.tl.b0.c60
              have c11 := L.tl.b0.c61
              have c12 := L.tl.b0.c62
              have c13 := L.tl.b0.c63
              have c14 := L.tl.b0.c64
              have c15 := L.tl.b0.c65
              (try go_wp2_with fail)
              refine (HS.out _ _ (isI_n (m := m) (e := e) (n := n) (f := f) (L.getN (v := .slice A (zl m) c) (x := (m).natAbs) (by simp)) (L.getN (v := .slice B (zl n) d) (x := (n).natAbs) (by simp)))).mono ?_
              rintro e w1 ⟨rfl, be⟩
              clear c00 f00 c01 f01 c02 f02 c03 f03 c04 f04 c05 f05 c10 c11 c12 c13 c14 c15
              replace L := L.step be
              clear be
              have c10 := L.tl.b0.c60
              have c11 := L.tl.b0.c61
              have c12 := L.tl.b0.c62
              have c13 := L.tl.b0.c63
              have c14 := L.tl.b0.c64
              have c15 := L.tl.b0.c65
              (try go_wp2_with fail)
              refine (HW.out _).mono ?_
              rintro e9 w' ⟨rfl, rfl⟩
              (try go_wp2_with fail)
              clear c10 c11 c12 c13 c14 c15
              refine (HR1.out _ _ (isD_n (m := m) (e := e) (s := .slice A (zl m) c) (L.getN (v := .slice A (zl m) c) (x := (m).natAbs) (by simp)))).mono ?_
              rintro e w2 ⟨vq, rfl, iq, be⟩
              replace L := (L.step be).q iq
              clear be iq
              (try go_wp2_with fail)
              refine (X1.out _ _ (L.getQ (by simp))).mono ?_
              rintro e w3 ⟨vq2, rfl, iq, be⟩
              obtain ⟨A1, c1, B1, k1, rfl, _, _, _⟩ := iq.form
              replace L := (L.step be).q iq
              clear be iq
              have hlgx := L.b0.lt
              replace L := L.varQ w3.heap.size rfl (ng a1) A1 B1 (zl a1) c1 (len d1) k1
              have cel00 := L.b0.c30
              have cel01 := L.b0.c31
              have cel02 := L.b0.c32
              have cel20 := L.tl.tl.b0.c60
              have cel21 := L.tl.tl.b0.c61
              have cel22 := L.tl.tl.b0.c62
              have cel23 := L.tl.tl.b0.c63
              have cel24 := L.tl.tl.b0.c64
              have cel25 := L.tl.tl.b0.c65
              go_wp2_with fail
              obtain ⟨gx, hg⟩ : ∃ g, w3.heap.size = g := ⟨_, rfl⟩
              rw [hg] at L hlgx cel00 cel01 cel02 ⊢
              clear hg
              refine (HR2.out _ _ (isD_n (m := n) (e := f) (s := .slice B (zl n) d) (L.getN (v := .slice B (zl n) d) (x := (n).natAbs) (by simp)))).mono ?_
              rintro e w4 ⟨vq, rfl, iq, be⟩
              clear cel00 cel01 cel02 cel20 cel21 cel22 cel23 cel24 cel25
              replace L := (L.step be).q iq
              clear be iq
              (try go_wp2_with fail)
              refine (X2.out _ _ (L.getQ (by simp))).mono ?_
              rintro e w5 ⟨vq2, rfl, iq, be⟩
              obtain ⟨A2, c2, B2, k2, rfl, _, _, _⟩ := iq.form
              replace L := (L.step be).q iq
              clear be iq
              have hlgy := L.b0.lt
              replace L := L.varQ w5.heap.size rfl (ng a2) A2 B2 (zl a2) c2 (len d2) k2
              have cel00 := L.b0.c30
              have cel01 := L.b0.c31
              have cel02 := L.b0.c32
              have cel10 := L.tl.b0.c30
              have cel11 := L.tl.b0.c31
              have cel12 := L.tl.b0.c32
              go_wp2_with fail
              clear cel00 cel01 cel02 cel10 cel11 cel12
              obtain ⟨V, hV⟩ : ∃ V, w5.alloc (.cells #[.bool (ng a2), .slice A2 (zl a2) c2, .slice B2 (len d2) k2] 57) = V := ⟨_, rfl⟩
              have hK : w5.heap.size + 1 = V.heap.size := by rw [← hV]; simp
              rw [hV] at L ⊢
              rw [hK]
              clear hV hK
              obtain ⟨gy, hgy⟩ : ∃ g, w5.heap.size = g := ⟨_, rfl⟩
              rw [hgy] at L hlgy ⊢
              clear hgy
              have LV := Lib.hid L
              have hown := lit6_ra (w := V) (L.getQ (v := .agg #[.bool (ng a1), .slice A1 (zl a1) c1, .slice B1 (len d1) k1]) (a := a1) (d := d1) (by simp)) (L.getQ (v := .agg #[.bool (ng a2), .slice A2 (zl a2) c2, .slice B2 (len d2) k2]) (a := a2) (d := d2) (by simp))
              replace L := L.var V.heap.size rfl 57 #[.bool (ng a1), .slice A1 (zl a1) c1, .slice B1 (len d1) k1, .bool (ng a2), .slice A2 (zl a2) c2, .slice B2 (len d2) k2] (plainE _ _ _ _ _ _ _ _ _ _ _ _ _ _)
              obtain ⟨U, hU⟩ : ∃ U, V.alloc (.cells #[.bool (ng a1), .slice A1 (zl a1) c1, .slice B1 (len d1) k1, .bool (ng a2), .slice A2 (zl a2) c2, .slice B2 (len d2) k2] 57) = U := ⟨_, rfl⟩
              have hVU : Below V.heap.size V U := by rw [← hU]; exact (Below.refl _ V).alloc (Nat.le_refl _) _
              rw [hU] at L hown ⊢
              clear hU
              have HOWN := Lib.hid hown
              have LU := Lib.hid L
              replace L := L.rebase.drew
              clear hown
              have cel40 := L.tl.tl.tl.tl.b0.c60
              have cel41 := L.tl.tl.tl.tl.b0.c61
              have cel42 := L.tl.tl.tl.tl.b0.c62
              have cel43 := L.tl.tl.tl.tl.b0.c63
              have cel44 := L.tl.tl.tl.tl.b0.c64
              have cel45 := L.tl.tl.tl.tl.b0.c65
              refine wp_region_noPanic ?_
              refine wp_region_held_drew (S := fun w' => w'.cell? ⟨w.heap.size, 0, none⟩ = some (.bool (ng m)) ∧ w'.cell? ⟨w.heap.size, 1, none⟩ = some (.slice A (zl m) c) ∧ w'.cell? ⟨w.heap.size, 2, none⟩ = some (.int .i64 e) ∧ w'.cell? ⟨w.heap.size, 3, none⟩ = some (.bool (ng n)) ∧ w'.cell? ⟨w.heap.size, 4, none⟩ = some (.slice B (zl n) d) ∧ w'.cell? ⟨w.heap.size, 5, none⟩ = some (.int .i64 f)) (by kernel_rfl) ?rgsp1x (fun hHeld => ?rgrp1x)
              case rgsp1x => exact ⟨L.tl.tl.tl.tl.b0.c60, L.tl.tl.tl.tl.b0.c61, L.tl.tl.tl.tl.b0.c62, L.tl.tl.tl.tl.b0.c63, L.tl.tl.tl.tl.b0.c64, L.tl.tl.tl.tl.b0.c65⟩
              case rgrp1x =>
                refine wpAnyH_take (i := 0) (oi := { dst := some 74, op := _, type := _, pos := _, after := _, guard := _ }) (v := ?vp1x0) rfl (by kernel_rfl) (by kernel_rfl) (by kernel_rfl) (fun _ _ _ h => h) (Or.inl ⟨by rfl, ?hyp1x0⟩) (by assumption) ?restp1x0
                case hyp1x0 => (intro w hSw; (try dsimp only at hSw); go_simp; (try with_reducible rfl))
                case restp1x0 =>
                  (try simp only [Act.put, List.setIfInBounds_toArray, List.set_cons_zero, List.set_cons_succ])
                  refine wpAnyH_take (i := 1) (oi := { dst := some 75, op := _, type := _, pos := _, after := _, guard := _ }) (v := ?vp1x1) rfl (by kernel_rfl) (by kernel_rfl) (by kernel_rfl) (fun _ _ _ h => h) (Or.inl ⟨by rfl, ?hyp1x1⟩) (by assumption) ?restp1x1
                  case hyp1x1 => (intro w hSw; (try dsimp only at hSw); go_simp; (try with_reducible rfl))
                  case restp1x1 =>
                    (try simp only [Act.put, List.setIfInBounds_toArray, List.set_cons_zero, List.set_cons_succ])
                    refine wpAnyH_take (i := 2) (oi := { dst := some 76, op := _, type := _, pos := _, after := _, guard := _ }) (v := ?vp1x2) rfl (by kernel_rfl) (by kernel_rfl) (by kernel_rfl) (fun _ _ _ h => h) (Or.inl ⟨by rfl, ?hyp1x2⟩) (by assumption) ?restp1x2
                    case hyp1x2 => (intro w hSw; (try dsimp only at hSw); go_simp; (try with_reducible rfl))
                    case restp1x2 =>
                      (try simp only [Act.put, List.setIfInBounds_toArray, List.set_cons_zero, List.set_cons_succ])
                      refine wpAnyH_take (i := 3) (oi := { dst := some 77, op := _, type := _, pos := _, after := _, guard := _ }) (v := undef) rfl (by kernel_rfl) (by kernel_rfl) (by kernel_rfl) (fun _ _ _ h => h) (Or.inr ⟨by rfl, rfl⟩) (by assumption) ?_
                      (try simp only [Act.put, List.setIfInBounds_toArray, List.set_cons_zero, List.set_cons_succ])
                      refine wpAnyH_take (i := 4) (oi := { dst := some 78, op := _, type := _, pos := _, after := _, guard := _ }) (v := undef) rfl (by kernel_rfl) (by kernel_rfl) (by kernel_rfl) (fun _ _ _ h => h) (Or.inr ⟨by rfl, rfl⟩) (by assumption) ?_
                      (try simp only [Act.put, List.setIfInBounds_toArray, List.set_cons_zero, List.set_cons_succ])
                      refine wpAnyH_take (i := 5) (oi := { dst := some 79, op := _, type := _, pos := _, after := _, guard := _ }) (v := undef) rfl (by kernel_rfl) (by kernel_rfl) (by kernel_rfl) (fun _ _ _ h => h) (Or.inr ⟨by rfl, rfl⟩) (by assumption) ?_
                      (try simp only [Act.put, List.setIfInBounds_toArray, List.set_cons_zero, List.set_cons_succ])
                      refine wpAnyH_take (i := 6) (oi := { dst := some 80, op := _, type := _, pos := _, after := _, guard := _ }) (v := ?vp1x6) rfl (by kernel_rfl) (by kernel_rfl) (by kernel_rfl) (fun _ _ _ h => h) (Or.inl ⟨by rfl, ?hyp1x6⟩) (by assumption) ?restp1x6
                      case hyp1x6 => (intro w hSw; (try dsimp only at hSw); go_simp; (try with_reducible rfl))
                      case restp1x6 =>
                        (try simp only [Act.put, List.setIfInBounds_toArray, List.set_cons_zero, List.set_cons_succ])
                        refine wpAnyH_take (i := 7) (oi := { dst := some 81, op := _, type := _, pos := _, after := _, guard := _ }) (v := ?vp1x7) rfl (by kernel_rfl) (by kernel_rfl) (by kernel_rfl) (fun _ _ _ h => h) (Or.inl ⟨by rfl, ?hyp1x7⟩) (by assumption) ?restp1x7
                        case hyp1x7 => (intro w hSw; (try dsimp only at hSw); go_simp; (try with_reducible rfl))
                        case restp1x7 =>
                          (try simp only [Act.put, List.setIfInBounds_toArray, List.set_cons_zero, List.set_cons_succ])
                          refine wpAnyH_take (i := 8) (oi := { dst := some 82, op := _, type := _, pos := _, after := _, guard := _ }) (v := undef) rfl (by kernel_rfl) (by kernel_rfl) (by kernel_rfl) (fun _ _ _ h => h) (Or.inr ⟨by rfl, rfl⟩) (by assumption) ?_
                          (try simp only [Act.put, List.setIfInBounds_toArray, List.set_cons_zero, List.set_cons_succ])
                          refine wpAnyH_take (i := 9) (oi := { dst := some 83, op := _, type := _, pos := _, after := _, guard := _ }) (v := undef) rfl (by kernel_rfl) (by kernel_rfl) (by kernel_rfl) (fun _ _ _ h => h) (Or.inr ⟨by rfl, rfl⟩) (by assumption) ?_
                          (try simp only [Act.put, List.setIfInBounds_toArray, List.set_cons_zero, List.set_cons_succ])
                          refine wpAnyH_take (i := 10) (oi := { dst := some 84, op := _, type := _, pos := _, after := _, guard := _ }) (v := undef) rfl (by kernel_rfl) (by kernel_rfl) (by kernel_rfl) (fun _ _ _ h => h) (Or.inr ⟨by rfl, rfl⟩) (by assumption) ?_
                          (try simp only [Act.put, List.setIfInBounds_toArray, List.set_cons_zero, List.set_cons_succ])
                          refine wpAnyH_take (i := 11) (oi := { dst := some 85, op := _, type := _, pos := _, after := _, guard := _ }) (v := ?vp1x11) rfl (by kernel_rfl) (by kernel_rfl) (by kernel_rfl) (fun _ _ _ h => h) (Or.inl ⟨by rfl, ?hyp1x11⟩) (by assumption) ?restp1x11
                          case hyp1x11 => (intro w hSw; (try dsimp only at hSw); go_simp; (try with_reducible rfl))
                          case restp1x11 =>
                            (try simp only [Act.put, List.setIfInBounds_toArray, List.set_cons_zero, List.set_cons_succ])
                            refine wpAnyH_done (by kernel_rfl) ?_ _
                            refine NoPanic.normal ?_
                            (try go_wp2_with fail)
                            replace L := LU.out.step L.below
                            refine (HEN.out _ _ (rowR_2 L.b0 (L.getQ (by simp)) (L.getQ (by simp)))).mono ?_
                            intro e9 w19 hen
                            obtain ⟨v19, er, m9, e9', n9, f9, rfl, ii, be, hback⟩ := hen.form
                            obtain ⟨A5, c5, B5, d5, rfl, ia, ib⟩ := ii.form
                            replace L := (((L.step be).n ib).n ia).pick [(w.heap.size + 1, 28, #[.bool false, .slice none 0 0, .int .i64 0, .bool false, .slice none 0 0, .int .i64 0])] (by simp)
                            clear be ii ia ib hen
                            have HBK := Lib.hid hback
                            clear hback
                            have cel00 := L.b0.c60
                            have f00 := L.b0.fr 0
                            have cel01 := L.b0.c61
                            have f01 := L.b0.fr 1
                            have cel02 := L.b0.c62
                            have f02 := L.b0.fr 2
                            have cel03 := L.b0.c63
                            have f03 := L.b0.fr 3
                            have cel04 := L.b0.c64
                            have f04 := L.b0.fr 4
                            have cel05 := L.b0.c65
                            have f05 := L.b0.fr 5
                            go_wp2_with fail
                            have LP := L.putI (by omega) (by first | (simp; done) | (simp; omega)) (ng m9) A5 (zl m9) c5 e9' (ng n9) B5 (zl n9) d5 f9
                            have k0' := LP.b0.c60
                            have k1' := LP.b0.c61
                            have k2' := LP.b0.c62
                            have k3' := LP.b0.c63
                            have k4' := LP.b0.c64
                            have k5' := LP.b0.c65
                            unfold put6 at k0' k1' k2' k3' k4' k5'
                            exact bodyPost_ret (v := .tuple #[.agg #[.bool (ng m9), .slice A5 (zl m9) c5, .int .i64 e9', .bool (ng n9), .slice B5 (zl n9) d5, .int .i64 f9], .int .i64 er]) (by simp [results, Tryz.results28, go_sem, k0', k1', k2', k3', k4', k5']) rfl (HBK.out _ _ _ (isI_n (LP.getN (by simp)) (LP.getN (by simp))) LP.below)
        · have b3 : decide (j < 0) = false := decide_eq_false hj
          rw [if_neg (fun h => hj h.1), if_neg (fun h => hj h.1)]
          obtain ⟨a1, d1, o1, q1, q2, q3, x1⟩ := HX.out pb1 (fun h => absurd h hj)
          obtain ⟨a2, d2, o2, q4, q5, q6, x2⟩ := HY.out pb2 (fun h => absurd h hj)
          by_cases hj0 : 0 < j
          · have b5 : decide (0 < j) = true := decide_eq_true hj0
            rcases (show j % 2 = 1 ∨ j % 2 = 0 by omega) with hpar | hpar
            · have b6 : (j.tmod 2 == 0) = false := by
                rw [Int.tmod_eq_emod_of_nonneg (by omega), hpar]; rfl
              obtain ⟨i1, i2⟩ := im_two (s := sb) (p := (a1, d1)) (q := (a2, d2)) q3 q6 (by
                cases sb
                · exact Or.inr ⟨rfl, (sc1 rfl).1, (sc1 rfl).2, Or.inr ⟨hj0, hpar⟩⟩
                · exact Or.inl rfl)
              have hbs9 : ∀ p ∈ [(a1, d1), (a2, d2)], zl p.1 ≤ 800 ∧ len p.2 ≤ 800 ∧ 0 < p.2 := fun p hp => by
                simp only [List.mem_cons, List.not_mem_nil, or_false] at hp
                rcases hp with rfl | rfl
                · exact ⟨q1, q2, o1⟩
                · exact ⟨q4, q5, o2⟩
              have HEN := Lib.hid (fun v W (h : RowR W v [(a1, d1), (a2, d2)]) => rencl_any [(a1, d1), (a2, d2)] _ _ k v W h (by simp) (by simp) hbs9 i1 i2 hk1 hk2)
              obtain ⟨lo, hlo⟩ : ∃ z, plo sb (dq m e) (dq n f) j = z := ⟨_, rfl⟩
              obtain ⟨hi, hhi⟩ : ∃ z, phi sb (dq m e) (dq n f) j = z := ⟨_, rfl⟩
              rw [hlo, hhi] at HEN ⊢
              have X1 := Lib.hid x1
              have X2 := Lib.hid x2
              clear x1 x2 o1 o2 q1 q2 q3 q4 q5 q6 i1 i2 hlo hhi sc1 sc2 hnz HX HY hw pb1 pb2 hj hk1 hk2 hbs9 gh hh hj0 hpar
              go_enter Tryz.func28, Tryz.ntmps28
              go_wp2_with fail
              have L := ((L0.varI (w.heap.size) (by simp) (ng m) A (zl m) c e (ng n) B (zl n) d f).varI (w.heap.size + 1) (by simp) false none 0 0 0 false none 0 0 0)
              have c00 := L.b0.c60
              have f00 := L.b0.fr 0
              have c01 := L.b0.c61
              have f01 := L.b0.fr 1
              have c02 := L.b0.c62
              have f02 := L.b0.fr 2
              have c03 := L.b0.c63
              have f03 := L.b0.fr 3
              have c04 := L.b0.c64
              have f04 := L.b0.fr 4
              have c05 := L.b0.c65
              have f05 := L.b0.fr 5
              have c10 := L.tl.b0.c60
              have c11 := L.tl.b0.c61
              have c12 := L.tl.b0.c62
              have c13 := L.tl.b0.c63
              have c14 := L.tl.b0.c64
              have c15 := L.tl.b0.c65
              (try go_wp2_with fail)
              refine (HS.out _ _ (isI_n (m := m) (e := e) (n := n) (f := f) (L.getN (v := .slice A (zl m) c) (x := (m).natAbs) (by simp)) (L.getN (v := .slice B (zl n) d) (x := (n).natAbs) (by simp)))).mono ?_
              rintro e w1 ⟨rfl, be⟩
              clear c00 f00 c01 f01 c02 f02 c03 f03 c04 f04 c05 f05 c10 c11 c12 c13 c14 c15
              replace L := L.step be
              clear be
              have c10 := L.tl.b0.c60
              have c11 := L.tl.b0.c61
              have c12 := L.tl.b0.c62
              have c13 := L.tl.b0.c63
              have c14 := L.tl.b0.c64
              have c15 := L.tl.b0.c65
              (try go_wp2_with fail)
              refine (HW.out _).mono ?_
              rintro e9 w' ⟨rfl, rfl⟩
              (try go_wp2_with fail)
              clear c10 c11 c12 c13 c14 c15
              refine (HR1.out _ _ (isD_n (m := m) (e := e) (s := .slice A (zl m) c) (L.getN (v := .slice A (zl m) c) (x := (m).natAbs) (by simp)))).mono ?_
              rintro e w2 ⟨vq, rfl, iq, be⟩
              replace L := (L.step be).q iq
              clear be iq
              (try go_wp2_with fail)
              refine (X1.out _ _ (L.getQ (by simp))).mono ?_
              rintro e w3 ⟨vq2, rfl, iq, be⟩
              obtain ⟨A1, c1, B1, k1, rfl, _, _, _⟩ := iq.form
              replace L := (L.step be).q iq
              clear be iq
              have hlgx := L.b0.lt
              replace L := L.varQ w3.heap.size rfl (ng a1) A1 B1 (zl a1) c1 (len d1) k1
              have cel00 := L.b0.c30
              have cel01 := L.b0.c31
              have cel02 := L.b0.c32
              have cel20 := L.tl.tl.b0.c60
              have cel21 := L.tl.tl.b0.c61
              have cel22 := L.tl.tl.b0.c62
              have cel23 := L.tl.tl.b0.c63
              have cel24 := L.tl.tl.b0.c64
              have cel25 := L.tl.tl.b0.c65
              go_wp2_with fail
              obtain ⟨gx, hg⟩ : ∃ g, w3.heap.size = g := ⟨_, rfl⟩
              rw [hg] at L hlgx cel00 cel01 cel02 ⊢
              clear hg
              refine (HR2.out _ _ (isD_n (m := n) (e := f) (s := .slice B (zl n) d) (L.getN (v := .slice B (zl n) d) (x := (n).natAbs) (by simp)))).mono ?_
              rintro e w4 ⟨vq, rfl, iq, be⟩
              clear cel00 cel01 cel02 cel20 cel21 cel22 cel23 cel24 cel25
              replace L := (L.step be).q iq
              clear be iq
              (try go_wp2_with fail)
              refine (X2.out _ _ (L.getQ (by simp))).mono ?_
              rintro e w5 ⟨vq2, rfl, iq, be⟩
              obtain ⟨A2, c2, B2, k2, rfl, _, _, _⟩ := iq.form
              replace L := (L.step be).q iq
              clear be iq
              have hlgy := L.b0.lt
              replace L := L.varQ w5.heap.size rfl (ng a2) A2 B2 (zl a2) c2 (len d2) k2
              have cel00 := L.b0.c30
              have cel01 := L.b0.c31
              have cel02 := L.b0.c32
              have cel10 := L.tl.b0.c30
              have cel11 := L.tl.b0.c31
              have cel12 := L.tl.b0.c32
              go_wp2_with fail
              clear cel00 cel01 cel02 cel10 cel11 cel12
              obtain ⟨V, hV⟩ : ∃ V, w5.alloc (.cells #[.bool (ng a2), .slice A2 (zl a2) c2, .slice B2 (len d2) k2] 57) = V := ⟨_, rfl⟩
              have hK : w5.heap.size + 1 = V.heap.size := by rw [← hV]; simp
              rw [hV] at L ⊢
              rw [hK]
              clear hV hK
              obtain ⟨gy, hgy⟩ : ∃ g, w5.heap.size = g := ⟨_, rfl⟩
              rw [hgy] at L hlgy ⊢
              clear hgy
              have LV := Lib.hid L
              have hown := lit6_ra (w := V) (L.getQ (v := .agg #[.bool (ng a1), .slice A1 (zl a1) c1, .slice B1 (len d1) k1]) (a := a1) (d := d1) (by simp)) (L.getQ (v := .agg #[.bool (ng a2), .slice A2 (zl a2) c2, .slice B2 (len d2) k2]) (a := a2) (d := d2) (by simp))
              replace L := L.var V.heap.size rfl 57 #[.bool (ng a1), .slice A1 (zl a1) c1, .slice B1 (len d1) k1, .bool (ng a2), .slice A2 (zl a2) c2, .slice B2 (len d2) k2] (plainE _ _ _ _ _ _ _ _ _ _ _ _ _ _)
              obtain ⟨U, hU⟩ : ∃ U, V.alloc (.cells #[.bool (ng a1), .slice A1 (zl a1) c1, .slice B1 (len d1) k1, .bool (ng a2), .slice A2 (zl a2) c2, .slice B2 (len d2) k2] 57) = U := ⟨_, rfl⟩
              have hVU : Below V.heap.size V U := by rw [← hU]; exact (Below.refl _ V).alloc (Nat.le_refl _) _
              rw [hU] at L hown ⊢
              clear hU
              have HOWN := Lib.hid hown
              have LU := Lib.hid L
              replace L := L.rebase.drew
              clear hown
              have cel40 := L.tl.tl.tl.tl.b0.c60
              have cel41 := L.tl.tl.tl.tl.b0.c61
              have cel42 := L.tl.tl.tl.tl.b0.c62
              have cel43 := L.tl.tl.tl.tl.b0.c63
              have cel44 := L.tl.tl.tl.tl.b0.c64
              have cel45 := L.tl.tl.tl.tl.b0.c65
              refine wp_region_noPanic ?_
              refine wp_region_held_drew (S := fun w' => w'.cell? ⟨w.heap.size, 0, none⟩ = some (.bool (ng m)) ∧ w'.cell? ⟨w.heap.size, 1, none⟩ = some (.slice A (zl m) c) ∧ w'.cell? ⟨w.heap.size, 2, none⟩ = some (.int .i64 e) ∧ w'.cell? ⟨w.heap.size, 3, none⟩ = some (.bool (ng n)) ∧ w'.cell? ⟨w.heap.size, 4, none⟩ = some (.slice B (zl n) d) ∧ w'.cell? ⟨w.heap.size, 5, none⟩ = some (.int .i64 f)) (by kernel_rfl) ?rgsp2x (fun hHeld => ?rgrp2x)
              case rgsp2x => exact ⟨L.tl.tl.tl.tl.b0.c60, L.tl.tl.tl.tl.b0.c61, L.tl.tl.tl.tl.b0.c62, L.tl.tl.tl.tl.b0.c63, L.tl.tl.tl.tl.b0.c64, L.tl.tl.tl.tl.b0.c65⟩
              case rgrp2x =>
                refine wpAnyH_take (i := 0) (oi := { dst := some 74, op := _, type := _, pos := _, after := _, guard := _ }) (v := ?vp2x0) rfl (by kernel_rfl) (by kernel_rfl) (by kernel_rfl) (fun _ _ _ h => h) (Or.inl ⟨by rfl, ?hyp2x0⟩) (by assumption) ?restp2x0
                case hyp2x0 => (intro w hSw; (try dsimp only at hSw); go_simp; (try with_reducible rfl))
                case restp2x0 =>
                  (try simp only [Act.put, List.setIfInBounds_toArray, List.set_cons_zero, List.set_cons_succ])
                  refine wpAnyH_take (i := 1) (oi := { dst := some 75, op := _, type := _, pos := _, after := _, guard := _ }) (v := ?vp2x1) rfl (by kernel_rfl) (by kernel_rfl) (by kernel_rfl) (fun _ _ _ h => h) (Or.inl ⟨by rfl, ?hyp2x1⟩) (by assumption) ?restp2x1
                  case hyp2x1 => (intro w hSw; (try dsimp only at hSw); go_simp; (try with_reducible rfl))
                  case restp2x1 =>
                    (try simp only [Act.put, List.setIfInBounds_toArray, List.set_cons_zero, List.set_cons_succ])
                    refine wpAnyH_take (i := 2) (oi := { dst := some 76, op := _, type := _, pos := _, after := _, guard := _ }) (v := ?vp2x2) rfl (by kernel_rfl) (by kernel_rfl) (by kernel_rfl) (fun _ _ _ h => h) (Or.inl ⟨by rfl, ?hyp2x2⟩) (by assumption) ?restp2x2
                    case hyp2x2 => (intro w hSw; (try dsimp only at hSw); go_simp; (try with_reducible rfl))
                    case restp2x2 =>
                      (try simp only [Act.put, List.setIfInBounds_toArray, List.set_cons_zero, List.set_cons_succ])
                      refine wpAnyH_take (i := 3) (oi := { dst := some 77, op := _, type := _, pos := _, after := _, guard := _ }) (v := ?vp2x3) rfl (by kernel_rfl) (by kernel_rfl) (by kernel_rfl) (fun _ _ _ h => h) (Or.inl ⟨by rfl, ?hyp2x3⟩) (by assumption) ?restp2x3
                      case hyp2x3 => (intro w hSw; (try dsimp only at hSw); go_simp; (try with_reducible rfl))
                      case restp2x3 =>
                        (try simp only [Act.put, List.setIfInBounds_toArray, List.set_cons_zero, List.set_cons_succ])
                        refine wpAnyH_take (i := 4) (oi := { dst := some 78, op := _, type := _, pos := _, after := _, guard := _ }) (v := ?vp2x4) rfl (by kernel_rfl) (by kernel_rfl) (by kernel_rfl) (fun _ _ _ h => h) (Or.inl ⟨by rfl, ?hyp2x4⟩) (by assumption) ?restp2x4
                        case hyp2x4 => (intro w hSw; (try dsimp only at hSw); go_simp; (try with_reducible rfl))
                        case restp2x4 =>
                          (try simp only [Act.put, List.setIfInBounds_toArray, List.set_cons_zero, List.set_cons_succ])
                          refine wpAnyH_take (i := 5) (oi := { dst := some 79, op := _, type := _, pos := _, after := _, guard := _ }) (v := ?vp2x5) rfl (by kernel_rfl) (by kernel_rfl) (by kernel_rfl) (fun _ _ _ h => h) (Or.inl ⟨by rfl, ?hyp2x5⟩) (by assumption) ?restp2x5
                          case hyp2x5 => (intro w hSw; (try dsimp only at hSw); go_simp; (try with_reducible rfl))
                          case restp2x5 =>
                            (try simp only [Act.put, List.setIfInBounds_toArray, List.set_cons_zero, List.set_cons_succ])
                            refine wpAnyH_take (i := 6) (oi := { dst := some 80, op := _, type := _, pos := _, after := _, guard := _ }) (v := ?vp2x6) rfl (by kernel_rfl) (by kernel_rfl) (by kernel_rfl) (fun _ _ _ h => h) (Or.inl ⟨by rfl, ?hyp2x6⟩) (by assumption) ?restp2x6
                            case hyp2x6 => (intro w hSw; (try dsimp only at hSw); go_simp; (try with_reducible rfl))
                            case restp2x6 =>
                              (try simp only [Act.put, List.setIfInBounds_toArray, List.set_cons_zero, List.set_cons_succ])
                              refine wpAnyH_take (i := 7) (oi := { dst := some 81, op := _, type := _, pos := _, after := _, guard := _ }) (v := ?vp2x7) rfl (by kernel_rfl) (by kernel_rfl) (by kernel_rfl) (fun _ _ _ h => h) (Or.inl ⟨by rfl, ?hyp2x7⟩) (by assumption) ?restp2x7
                              case hyp2x7 => (intro w hSw; (try dsimp only at hSw); go_simp; (try with_reducible rfl))
                              case restp2x7 =>
                                (try simp only [Act.put, List.setIfInBounds_toArray, List.set_cons_zero, List.set_cons_succ])
                                refine wpAnyH_take (i := 8) (oi := { dst := some 82, op := _, type := _, pos := _, after := _, guard := _ }) (v := undef) rfl (by kernel_rfl) (by kernel_rfl) (by kernel_rfl) (fun _ _ _ h => h) (Or.inr ⟨by rfl, rfl⟩) (by assumption) ?_
                                (try simp only [Act.put, List.setIfInBounds_toArray, List.set_cons_zero, List.set_cons_succ])
                                refine wpAnyH_take (i := 9) (oi := { dst := some 83, op := _, type := _, pos := _, after := _, guard := _ }) (v := undef) rfl (by kernel_rfl) (by kernel_rfl) (by kernel_rfl) (fun _ _ _ h => h) (Or.inr ⟨by rfl, rfl⟩) (by assumption) ?_
                                (try simp only [Act.put, List.setIfInBounds_toArray, List.set_cons_zero, List.set_cons_succ])
                                refine wpAnyH_take (i := 10) (oi := { dst := some 84, op := _, type := _, pos := _, after := _, guard := _ }) (v := undef) rfl (by kernel_rfl) (by kernel_rfl) (by kernel_rfl) (fun _ _ _ h => h) (Or.inr ⟨by rfl, rfl⟩) (by assumption) ?_
                                (try simp only [Act.put, List.setIfInBounds_toArray, List.set_cons_zero, List.set_cons_succ])
                                refine wpAnyH_take (i := 11) (oi := { dst := some 85, op := _, type := _, pos := _, after := _, guard := _ }) (v := ?vp2x11) rfl (by kernel_rfl) (by kernel_rfl) (by kernel_rfl) (fun _ _ _ h => h) (Or.inl ⟨by rfl, ?hyp2x11⟩) (by assumption) ?restp2x11
                                case hyp2x11 => (intro w hSw; (try dsimp only at hSw); go_simp; (try with_reducible rfl))
                                case restp2x11 =>
                                  (try simp only [Act.put, List.setIfInBounds_toArray, List.set_cons_zero, List.set_cons_succ])
                                  refine wpAnyH_done (by kernel_rfl) ?_ _
                                  refine NoPanic.normal ?_
                                  (try go_wp2_with fail)
                                  replace L := LU.out.step L.below
                                  refine (HEN.out _ _ (rowR_2 L.b0 (L.getQ (by simp)) (L.getQ (by simp)))).mono ?_
                                  intro e9 w19 hen
                                  obtain ⟨v19, er, m9, e9', n9, f9, rfl, ii, be, hback⟩ := hen.form
                                  obtain ⟨A5, c5, B5, d5, rfl, ia, ib⟩ := ii.form
                                  replace L := (((L.step be).n ib).n ia).pick [(w.heap.size + 1, 28, #[.bool false, .slice none 0 0, .int .i64 0, .bool false, .slice none 0 0, .int .i64 0])] (by simp)
                                  clear be ii ia ib hen
                                  have HBK := Lib.hid hback
                                  clear hback
                                  have cel00 := L.b0.c60
                                  have f00 := L.b0.fr 0
                                  have cel01 := L.b0.c61
                                  have f01 := L.b0.fr 1
                                  have cel02 := L.b0.c62
                                  have f02 := L.b0.fr 2
                                  have cel03 := L.b0.c63
                                  have f03 := L.b0.fr 3
                                  have cel04 := L.b0.c64
                                  have f04 := L.b0.fr 4
                                  have cel05 := L.b0.c65
                                  have f05 := L.b0.fr 5
                                  go_wp2_with fail
                                  have LP := L.putI (by omega) (by first | (simp; done) | (simp; omega)) (ng m9) A5 (zl m9) c5 e9' (ng n9) B5 (zl n9) d5 f9
                                  have k0' := LP.b0.c60
                                  have k1' := LP.b0.c61
                                  have k2' := LP.b0.c62
                                  have k3' := LP.b0.c63
                                  have k4' := LP.b0.c64
                                  have k5' := LP.b0.c65
                                  unfold put6 at k0' k1' k2' k3' k4' k5'
                                  exact bodyPost_ret (v := .tuple #[.agg #[.bool (ng m9), .slice A5 (zl m9) c5, .int .i64 e9', .bool (ng n9), .slice B5 (zl n9) d5, .int .i64 f9], .int .i64 er]) (by simp [results, Tryz.results28, go_sem, k0', k1', k2', k3', k4', k5']) rfl (HBK.out _ _ _ (isI_n (LP.getN (by simp)) (LP.getN (by simp))) LP.below)
            · have b6 : (j.tmod 2 == 0) = true := by
                rw [Int.tmod_eq_emod_of_nonneg (by omega), hpar]; rfl
              cases hH : hasB m e n f 0 1
              · rw [hH] at gh hh
                have HH := Lib.hid gh
                obtain ⟨i1, i2⟩ := im_two (s := sb) (p := (a1, d1)) (q := (a2, d2)) q3 q6 (by
                  cases sb
                  · exact absurd (hh.2 (sc1 rfl)) (by decide)
                  · exact Or.inl rfl)
                have hbs9 : ∀ p ∈ [(a1, d1), (a2, d2)], zl p.1 ≤ 800 ∧ len p.2 ≤ 800 ∧ 0 < p.2 := fun p hp => by
                  simp only [List.mem_cons, List.not_mem_nil, or_false] at hp
                  rcases hp with rfl | rfl
                  · exact ⟨q1, q2, o1⟩
                  · exact ⟨q4, q5, o2⟩
                have HEN := Lib.hid (fun v W (h : RowR W v [(a1, d1), (a2, d2)]) => rencl_any [(a1, d1), (a2, d2)] _ _ k v W h (by simp) (by simp) hbs9 i1 i2 hk1 hk2)
                obtain ⟨lo, hlo⟩ : ∃ z, plo sb (dq m e) (dq n f) j = z := ⟨_, rfl⟩
                obtain ⟨hi, hhi⟩ : ∃ z, phi sb (dq m e) (dq n f) j = z := ⟨_, rfl⟩
                rw [hlo, hhi] at HEN ⊢
                have X1 := Lib.hid x1
                have X2 := Lib.hid x2
                clear x1 x2 o1 o2 q1 q2 q3 q4 q5 q6 i1 i2 hlo hhi sc1 sc2 hnz HX HY hw pb1 pb2 hj hk1 hk2 hbs9 gh hh hH hj0 hpar
                go_enter Tryz.func28, Tryz.ntmps28
                go_wp2_with fail
                have L := ((L0.varI (w.heap.size) (by simp) (ng m) A (zl m) c e (ng n) B (zl n) d f).varI (w.heap.size + 1) (by simp) false none 0 0 0 false none 0 0 0)
                have c00 := L.b0.c60
                have f00 := L.b0.fr 0
                have c01 := L.b0.c61
                have f01 := L.b0.fr 1
                have c02 := L.b0.c62
                have f02 := L.b0.fr 2
                have c03 := L.b0.c63
                have f03 := L.b0.fr 3
                have c04 := L.b0.c64
                have f04 := L.b0.fr 4
                have c05 := L.b0.c65
                have f05 := L.b0.fr 5
                have c10 := L.tl.b0.c60
                have c11 := L.tl.b0.c61
                have c12 := L.tl.b0.c62
                have c13 := L.tl.b0.c63
                have c14 := L.tl.b0.c64
                have c15 := L.tl.b0.c65
                (try go_wp2_with fail)
                refine (HS.out _ _ (isI_n (m := m) (e := e) (n := n) (f := f) (L.getN (v := .slice A (zl m) c) (x := (m).natAbs) (by simp)) (L.getN (v := .slice B (zl n) d) (x := (n).natAbs) (by simp)))).mono ?_
                rintro e w1 ⟨rfl, be⟩
                clear c00 f00 c01 f01 c02 f02 c03 f03 c04 f04 c05 f05 c10 c11 c12 c13 c14 c15
                replace L := L.step be
                clear be
                have c10 := L.tl.b0.c60
                have c11 := L.tl.b0.c61
                have c12 := L.tl.b0.c62
                have c13 := L.tl.b0.c63
                have c14 := L.tl.b0.c64
                have c15 := L.tl.b0.c65
                (try go_wp2_with fail)
                refine (HW.out _).mono ?_
                rintro e9 w' ⟨rfl, rfl⟩
                (try go_wp2_with fail)
                clear c10 c11 c12 c13 c14 c15
                refine (HR1.out _ _ (isD_n (m := m) (e := e) (s := .slice A (zl m) c) (L.getN (v := .slice A (zl m) c) (x := (m).natAbs) (by simp)))).mono ?_
                rintro e w2 ⟨vq, rfl, iq, be⟩
                replace L := (L.step be).q iq
                clear be iq
                (try go_wp2_with fail)
                refine (X1.out _ _ (L.getQ (by simp))).mono ?_
                rintro e w3 ⟨vq2, rfl, iq, be⟩
                obtain ⟨A1, c1, B1, k1, rfl, _, _, _⟩ := iq.form
                replace L := (L.step be).q iq
                clear be iq
                have hlgx := L.b0.lt
                replace L := L.varQ w3.heap.size rfl (ng a1) A1 B1 (zl a1) c1 (len d1) k1
                have cel00 := L.b0.c30
                have cel01 := L.b0.c31
                have cel02 := L.b0.c32
                have cel20 := L.tl.tl.b0.c60
                have cel21 := L.tl.tl.b0.c61
                have cel22 := L.tl.tl.b0.c62
                have cel23 := L.tl.tl.b0.c63
                have cel24 := L.tl.tl.b0.c64
                have cel25 := L.tl.tl.b0.c65
                go_wp2_with fail
                obtain ⟨gx, hg⟩ : ∃ g, w3.heap.size = g := ⟨_, rfl⟩
                rw [hg] at L hlgx cel00 cel01 cel02 ⊢
                clear hg
                refine (HR2.out _ _ (isD_n (m := n) (e := f) (s := .slice B (zl n) d) (L.getN (v := .slice B (zl n) d) (x := (n).natAbs) (by simp)))).mono ?_
                rintro e w4 ⟨vq, rfl, iq, be⟩
                clear cel00 cel01 cel02 cel20 cel21 cel22 cel23 cel24 cel25
                replace L := (L.step be).q iq
                clear be iq
                (try go_wp2_with fail)
                refine (X2.out _ _ (L.getQ (by simp))).mono ?_
                rintro e w5 ⟨vq2, rfl, iq, be⟩
                obtain ⟨A2, c2, B2, k2, rfl, _, _, _⟩ := iq.form
                replace L := (L.step be).q iq
                clear be iq
                have hlgy := L.b0.lt
                replace L := L.varQ w5.heap.size rfl (ng a2) A2 B2 (zl a2) c2 (len d2) k2
                have cel00 := L.b0.c30
                have cel01 := L.b0.c31
                have cel02 := L.b0.c32
                have cel10 := L.tl.b0.c30
                have cel11 := L.tl.b0.c31
                have cel12 := L.tl.b0.c32
                go_wp2_with fail
                clear cel00 cel01 cel02 cel10 cel11 cel12
                obtain ⟨V, hV⟩ : ∃ V, w5.alloc (.cells #[.bool (ng a2), .slice A2 (zl a2) c2, .slice B2 (len d2) k2] 57) = V := ⟨_, rfl⟩
                have hK : w5.heap.size + 1 = V.heap.size := by rw [← hV]; simp
                rw [hV] at L ⊢
                rw [hK]
                clear hV hK
                obtain ⟨gy, hgy⟩ : ∃ g, w5.heap.size = g := ⟨_, rfl⟩
                rw [hgy] at L hlgy ⊢
                clear hgy
                have LV := Lib.hid L
                have hown := lit6_ra (w := V) (L.getQ (v := .agg #[.bool (ng a1), .slice A1 (zl a1) c1, .slice B1 (len d1) k1]) (a := a1) (d := d1) (by simp)) (L.getQ (v := .agg #[.bool (ng a2), .slice A2 (zl a2) c2, .slice B2 (len d2) k2]) (a := a2) (d := d2) (by simp))
                replace L := L.var V.heap.size rfl 57 #[.bool (ng a1), .slice A1 (zl a1) c1, .slice B1 (len d1) k1, .bool (ng a2), .slice A2 (zl a2) c2, .slice B2 (len d2) k2] (plainE _ _ _ _ _ _ _ _ _ _ _ _ _ _)
                obtain ⟨U, hU⟩ : ∃ U, V.alloc (.cells #[.bool (ng a1), .slice A1 (zl a1) c1, .slice B1 (len d1) k1, .bool (ng a2), .slice A2 (zl a2) c2, .slice B2 (len d2) k2] 57) = U := ⟨_, rfl⟩
                have hVU : Below V.heap.size V U := by rw [← hU]; exact (Below.refl _ V).alloc (Nat.le_refl _) _
                rw [hU] at L hown ⊢
                clear hU
                have HOWN := Lib.hid hown
                have LU := Lib.hid L
                replace L := L.rebase.drew
                clear hown
                have cel40 := L.tl.tl.tl.tl.b0.c60
                have cel41 := L.tl.tl.tl.tl.b0.c61
                have cel42 := L.tl.tl.tl.tl.b0.c62
                have cel43 := L.tl.tl.tl.tl.b0.c63
                have cel44 := L.tl.tl.tl.tl.b0.c64
                have cel45 := L.tl.tl.tl.tl.b0.c65
                refine wp_region_noPanic ?_
                refine wp_region_held_drew (S := fun w' => w'.cell? ⟨w.heap.size, 0, none⟩ = some (.bool (ng m)) ∧ w'.cell? ⟨w.heap.size, 1, none⟩ = some (.slice A (zl m) c) ∧ w'.cell? ⟨w.heap.size, 2, none⟩ = some (.int .i64 e) ∧ w'.cell? ⟨w.heap.size, 3, none⟩ = some (.bool (ng n)) ∧ w'.cell? ⟨w.heap.size, 4, none⟩ = some (.slice B (zl n) d) ∧ w'.cell? ⟨w.heap.size, 5, none⟩ = some (.int .i64 f)) (by kernel_rfl) ?rgsp3x (fun hHeld => ?rgrp3x)
                case rgsp3x => exact ⟨L.tl.tl.tl.tl.b0.c60, L.tl.tl.tl.tl.b0.c61, L.tl.tl.tl.tl.b0.c62, L.tl.tl.tl.tl.b0.c63, L.tl.tl.tl.tl.b0.c64, L.tl.tl.tl.tl.b0.c65⟩
                case rgrp3x =>
                  refine wpAnyH_take (i := 0) (oi := { dst := some 74, op := _, type := _, pos := _, after := _, guard := _ }) (v := ?vp3x0) rfl (by kernel_rfl) (by kernel_rfl) (by kernel_rfl) (fun _ _ _ h => h) (Or.inl ⟨by rfl, ?hyp3x0⟩) (by assumption) ?restp3x0
                  case hyp3x0 => (intro w hSw; (try dsimp only at hSw); go_simp; (try with_reducible rfl))
                  case restp3x0 =>
                    (try simp only [Act.put, List.setIfInBounds_toArray, List.set_cons_zero, List.set_cons_succ])
                    refine wpAnyH_take (i := 1) (oi := { dst := some 75, op := _, type := _, pos := _, after := _, guard := _ }) (v := ?vp3x1) rfl (by kernel_rfl) (by kernel_rfl) (by kernel_rfl) (fun _ _ _ h => h) (Or.inl ⟨by rfl, ?hyp3x1⟩) (by assumption) ?restp3x1
                    case hyp3x1 => (intro w hSw; (try dsimp only at hSw); go_simp; (try with_reducible rfl))
                    case restp3x1 =>
                      (try simp only [Act.put, List.setIfInBounds_toArray, List.set_cons_zero, List.set_cons_succ])
                      refine wpAnyH_take (i := 2) (oi := { dst := some 76, op := _, type := _, pos := _, after := _, guard := _ }) (v := ?vp3x2) rfl (by kernel_rfl) (by kernel_rfl) (by kernel_rfl) (fun _ _ _ h => h) (Or.inl ⟨by rfl, ?hyp3x2⟩) (by assumption) ?restp3x2
                      case hyp3x2 => (intro w hSw; (try dsimp only at hSw); go_simp; (try with_reducible rfl))
                      case restp3x2 =>
                        (try simp only [Act.put, List.setIfInBounds_toArray, List.set_cons_zero, List.set_cons_succ])
                        refine wpAnyH_take (i := 3) (oi := { dst := some 77, op := _, type := _, pos := _, after := _, guard := _ }) (v := ?vp3x3) rfl (by kernel_rfl) (by kernel_rfl) (by kernel_rfl) (fun _ _ _ h => h) (Or.inl ⟨by rfl, ?hyp3x3⟩) (by assumption) ?restp3x3
                        case hyp3x3 => (intro w hSw; (try dsimp only at hSw); go_simp; (try with_reducible rfl))
                        case restp3x3 =>
                          (try simp only [Act.put, List.setIfInBounds_toArray, List.set_cons_zero, List.set_cons_succ])
                          refine wpAnyH_take (i := 4) (oi := { dst := some 78, op := _, type := _, pos := _, after := _, guard := _ }) (v := ?vp3x4) rfl (by kernel_rfl) (by kernel_rfl) (by kernel_rfl) (fun _ _ _ h => h) (Or.inl ⟨by rfl, ?hyp3x4⟩) (by assumption) ?restp3x4
                          case hyp3x4 => (intro w hSw; (try dsimp only at hSw); go_simp; (try with_reducible rfl))
                          case restp3x4 =>
                            (try simp only [Act.put, List.setIfInBounds_toArray, List.set_cons_zero, List.set_cons_succ])
                            refine wpAnyH_take (i := 5) (oi := { dst := some 79, op := _, type := _, pos := _, after := _, guard := _ }) (v := ?vp3x5) rfl (by kernel_rfl) (by kernel_rfl) (by kernel_rfl) (fun _ _ _ h => h) (Or.inl ⟨by rfl, ?hyp3x5⟩) (by assumption) ?restp3x5
                            case hyp3x5 => (intro w hSw; (try dsimp only at hSw); go_simp; (try with_reducible rfl))
                            case restp3x5 =>
                              (try simp only [Act.put, List.setIfInBounds_toArray, List.set_cons_zero, List.set_cons_succ])
                              refine wpAnyH_take (i := 6) (oi := { dst := some 80, op := _, type := _, pos := _, after := _, guard := _ }) (v := ?vp3x6) rfl (by kernel_rfl) (by kernel_rfl) (by kernel_rfl) (fun _ _ _ h => h) (Or.inl ⟨by rfl, ?hyp3x6⟩) (by assumption) ?restp3x6
                              case hyp3x6 => (intro w hSw; (try dsimp only at hSw); go_simp; (try with_reducible rfl))
                              case restp3x6 =>
                                (try simp only [Act.put, List.setIfInBounds_toArray, List.set_cons_zero, List.set_cons_succ])
                                refine wpAnyH_take (i := 7) (oi := { dst := some 81, op := _, type := _, pos := _, after := _, guard := _ }) (v := ?vp3x7) rfl (by kernel_rfl) (by kernel_rfl) (by kernel_rfl) (fun _ _ _ h => h) (Or.inl ⟨by rfl, ?hyp3x7⟩) (by assumption) ?restp3x7
                                case hyp3x7 => (intro w hSw; (try dsimp only at hSw); go_simp; (try with_reducible rfl))
                                case restp3x7 =>
                                  (try simp only [Act.put, List.setIfInBounds_toArray, List.set_cons_zero, List.set_cons_succ])
                                  refine wpAnyH_take (i := 8) (oi := { dst := some 82, op := _, type := _, pos := _, after := _, guard := _ }) (v := ?vp3x8) rfl (by kernel_rfl) (by kernel_rfl) (by kernel_rfl) (fun _ _ _ h => h) (Or.inl ⟨by rfl, ?hyp3x8⟩) (by assumption) ?restp3x8
                                  case hyp3x8 => (intro w hSw; (try dsimp only at hSw); go_simp; (try with_reducible rfl))
                                  case restp3x8 =>
                                    (try simp only [Act.put, List.setIfInBounds_toArray, List.set_cons_zero, List.set_cons_succ])
                                    refine wpAnyH_ready (rs := [9]) (by kernel_rfl) (by simp) ?_
                                    refine AllReadyH.cons rfl (fun K hK => ?_) AllReadyH.nil
                                    go_simp
                                    go_at_call 66
                                    refine (HO.out _ ).mono ?_
                                    
                                    rintro e wh ⟨vh, rfl, iq, be⟩
                                    replace L := (L.step be).q iq
                                    clear be iq
                                    go_wp2_with fail
                                    refine hK.out _ _ (by first | (with_reducible exact ⟨L.tl.tl.tl.tl.b0.c60, L.tl.tl.tl.tl.b0.c61, L.tl.tl.tl.tl.b0.c62, L.tl.tl.tl.tl.b0.c63, L.tl.tl.tl.tl.b0.c64, L.tl.tl.tl.tl.b0.c65⟩) | exact ⟨L.tl.tl.tl.tl.b0.c60, L.tl.tl.tl.tl.b0.c61, L.tl.tl.tl.tl.b0.c62, L.tl.tl.tl.tl.b0.c63, L.tl.tl.tl.tl.b0.c64, L.tl.tl.tl.tl.b0.c65⟩) (fun hHeld2 => ?_)
                                    clear hK K hHeld
                                    have hHeld := hHeld2
                                    clear hHeld2
                                    (try simp only [Act.put, List.setIfInBounds_toArray, List.set_cons_zero, List.set_cons_succ])
                                    refine wpAnyH_ready (rs := [10]) (by kernel_rfl) (by simp) ?_
                                    refine AllReadyH.cons rfl (fun K hK => ?_) AllReadyH.nil
                                    go_simp
                                    go_at_call 33
                                    refine (HH.out _ _ _ ?_ ?_ ).mono ?_
                                    · (refine isI_n (L.getN ?_) (L.getN ?_) <;> (repeat (first | (with_reducible exact List.mem_cons_self) | apply List.mem_cons_of_mem)))
                                    · (refine L.getQ ?_; (repeat (first | (with_reducible exact List.mem_cons_self) | apply List.mem_cons_of_mem)))
                                    rintro e wh ⟨rfl, be⟩
                                    replace L := L.step be
                                    clear be
                                    go_wp2_with fail
                                    refine hK.out _ _ (by first | (with_reducible exact ⟨L.tl.tl.tl.tl.b0.c60, L.tl.tl.tl.tl.b0.c61, L.tl.tl.tl.tl.b0.c62, L.tl.tl.tl.tl.b0.c63, L.tl.tl.tl.tl.b0.c64, L.tl.tl.tl.tl.b0.c65⟩) | exact ⟨L.tl.tl.tl.tl.b0.c60, L.tl.tl.tl.tl.b0.c61, L.tl.tl.tl.tl.b0.c62, L.tl.tl.tl.tl.b0.c63, L.tl.tl.tl.tl.b0.c64, L.tl.tl.tl.tl.b0.c65⟩) (fun hHeld2 => ?_)
                                    clear hK K hHeld
                                    have hHeld := hHeld2
                                    clear hHeld2
                                    (try simp only [Act.put, List.setIfInBounds_toArray, List.set_cons_zero, List.set_cons_succ])
                                    refine wpAnyH_take (i := 11) (oi := { dst := some 85, op := _, type := _, pos := _, after := _, guard := _ }) (v := ?vp3x11) rfl (by kernel_rfl) (by kernel_rfl) (by kernel_rfl) (fun _ _ _ h => h) (Or.inl ⟨by rfl, ?hyp3x11⟩) (by assumption) ?restp3x11
                                    case hyp3x11 => (intro w hSw; (try dsimp only at hSw); go_simp; (try with_reducible rfl))
                                    case restp3x11 =>
                                      (try simp only [Act.put, List.setIfInBounds_toArray, List.set_cons_zero, List.set_cons_succ])
                                      refine wpAnyH_done (by kernel_rfl) ?_ _
                                      refine NoPanic.normal ?_
                                      (try go_wp2_with fail)
                                      replace L := LU.out.step L.below
                                      refine (HEN.out _ _ (rowR_2 L.b0 (L.getQ (by simp)) (L.getQ (by simp)))).mono ?_
                                      intro e9 w19 hen
                                      obtain ⟨v19, er, m9, e9', n9, f9, rfl, ii, be, hback⟩ := hen.form
                                      obtain ⟨A5, c5, B5, d5, rfl, ia, ib⟩ := ii.form
                                      replace L := (((L.step be).n ib).n ia).pick [(w.heap.size + 1, 28, #[.bool false, .slice none 0 0, .int .i64 0, .bool false, .slice none 0 0, .int .i64 0])] (by simp)
                                      clear be ii ia ib hen
                                      have HBK := Lib.hid hback
                                      clear hback
                                      have cel00 := L.b0.c60
                                      have f00 := L.b0.fr 0
                                      have cel01 := L.b0.c61
                                      have f01 := L.b0.fr 1
                                      have cel02 := L.b0.c62
                                      have f02 := L.b0.fr 2
                                      have cel03 := L.b0.c63
                                      have f03 := L.b0.fr 3
                                      have cel04 := L.b0.c64
                                      have f04 := L.b0.fr 4
                                      have cel05 := L.b0.c65
                                      have f05 := L.b0.fr 5
                                      go_wp2_with fail
                                      have LP := L.putI (by omega) (by first | (simp; done) | (simp; omega)) (ng m9) A5 (zl m9) c5 e9' (ng n9) B5 (zl n9) d5 f9
                                      have k0' := LP.b0.c60
                                      have k1' := LP.b0.c61
                                      have k2' := LP.b0.c62
                                      have k3' := LP.b0.c63
                                      have k4' := LP.b0.c64
                                      have k5' := LP.b0.c65
                                      unfold put6 at k0' k1' k2' k3' k4' k5'
                                      exact bodyPost_ret (v := .tuple #[.agg #[.bool (ng m9), .slice A5 (zl m9) c5, .int .i64 e9', .bool (ng n9), .slice B5 (zl n9) d5, .int .i64 f9], .int .i64 er]) (by simp [results, Tryz.results28, go_sem, k0', k1', k2', k3', k4', k5']) rfl (HBK.out _ _ _ (isI_n (LP.getN (by simp)) (LP.getN (by simp))) LP.below)
              · rw [hH] at gh hh
                have HH := Lib.hid gh
                obtain ⟨i1, i2⟩ := im_three (s := sb) (p := (a1, d1)) (q := (a2, d2)) q3 q6 hj0 (fun hs => by
                  have hc := hh.1 rfl
                  by_cases hv0 : sv = 0
                  · exact (sc2 hs).1 hv0
                  · rcases (sc2 hs).2 hv0 with h | h
                    · exact absurd hc.1 (Rat.not_le.2 h)
                    · exact absurd hc.2 (Rat.not_le.2 h))
                have hbs9 : ∀ p ∈ [(a1, d1), (a2, d2), (0, 1)], zl p.1 ≤ 800 ∧ len p.2 ≤ 800 ∧ 0 < p.2 := fun p hp => by
                  simp only [List.mem_cons, List.not_mem_nil, or_false] at hp
                  rcases hp with rfl | rfl | rfl
                  · exact ⟨q1, q2, o1⟩
                  · exact ⟨q4, q5, o2⟩
                  · exact ⟨by show zl 0 ≤ 800; rw [zl_zero]; omega, by show len 1 ≤ 800; exact Nat.le_trans (len_le1 (by decide)) (by decide), by decide⟩
                have HEN := Lib.hid (fun v W (h : RowR W v [(a1, d1), (a2, d2), (0, 1)]) => rencl_any [(a1, d1), (a2, d2), (0, 1)] _ _ k v W h (by simp) (by simp) hbs9 i1 i2 hk1 hk2)
                obtain ⟨lo, hlo⟩ : ∃ z, plo sb (dq m e) (dq n f) j = z := ⟨_, rfl⟩
                obtain ⟨hi, hhi⟩ : ∃ z, phi sb (dq m e) (dq n f) j = z := ⟨_, rfl⟩
                rw [hlo, hhi] at HEN ⊢
                have X1 := Lib.hid x1
                have X2 := Lib.hid x2
                clear x1 x2 o1 o2 q1 q2 q3 q4 q5 q6 i1 i2 hlo hhi sc1 sc2 hnz HX HY hw pb1 pb2 hj hk1 hk2 hbs9 gh hh hH hj0 hpar
                go_enter Tryz.func28, Tryz.ntmps28
                go_wp2_with fail
                have L := ((L0.varI (w.heap.size) (by simp) (ng m) A (zl m) c e (ng n) B (zl n) d f).varI (w.heap.size + 1) (by simp) false none 0 0 0 false none 0 0 0)
                have c00 := L.b0.c60
                have f00 := L.b0.fr 0
                have c01 := L.b0.c61
                have f01 := L.b0.fr 1
                have c02 := L.b0.c62
                have f02 := L.b0.fr 2
                have c03 := L.b0.c63
                have f03 := L.b0.fr 3
                have c04 := L.b0.c64
                have f04 := L.b0.fr 4
                have c05 := L.b0.c65
                have f05 := L.b0.fr 5
                have c10 := L.tl.b0.c60
                have c11 := L.tl.b0.c61
                have c12 := L.tl.b0.c62
                have c13 := L.tl.b0.c63
                have c14 := L.tl.b0.c64
                have c15 := L.tl.b0.c65
                (try go_wp2_with fail)
                refine (HS.out _ _ (isI_n (m := m) (e := e) (n := n) (f := f) (L.getN (v := .slice A (zl m) c) (x := (m).natAbs) (by simp)) (L.getN (v := .slice B (zl n) d) (x := (n).natAbs) (by simp)))).mono ?_
                rintro e w1 ⟨rfl, be⟩
                clear c00 f00 c01 f01 c02 f02 c03 f03 c04 f04 c05 f05 c10 c11 c12 c13 c14 c15
                replace L := L.step be
                clear be
                have c10 := L.tl.b0.c60
                have c11 := L.tl.b0.c61
                have c12 := L.tl.b0.c62
                have c13 := L.tl.b0.c63
                have c14 := L.tl.b0.c64
                have c15 := L.tl.b0.c65
                (try go_wp2_with fail)
                refine (HW.out _).mono ?_
                rintro e9 w' ⟨rfl, rfl⟩
                (try go_wp2_with fail)
                clear c10 c11 c12 c13 c14 c15
                refine (HR1.out _ _ (isD_n (m := m) (e := e) (s := .slice A (zl m) c) (L.getN (v := .slice A (zl m) c) (x := (m).natAbs) (by simp)))).mono ?_
                rintro e w2 ⟨vq, rfl, iq, be⟩
                replace L := (L.step be).q iq
                clear be iq
                (try go_wp2_with fail)
                refine (X1.out _ _ (L.getQ (by simp))).mono ?_
                rintro e w3 ⟨vq2, rfl, iq, be⟩
                obtain ⟨A1, c1, B1, k1, rfl, _, _, _⟩ := iq.form
                replace L := (L.step be).q iq
                clear be iq
                have hlgx := L.b0.lt
                replace L := L.varQ w3.heap.size rfl (ng a1) A1 B1 (zl a1) c1 (len d1) k1
                have cel00 := L.b0.c30
                have cel01 := L.b0.c31
                have cel02 := L.b0.c32
                have cel20 := L.tl.tl.b0.c60
                have cel21 := L.tl.tl.b0.c61
                have cel22 := L.tl.tl.b0.c62
                have cel23 := L.tl.tl.b0.c63
                have cel24 := L.tl.tl.b0.c64
                have cel25 := L.tl.tl.b0.c65
                go_wp2_with fail
                obtain ⟨gx, hg⟩ : ∃ g, w3.heap.size = g := ⟨_, rfl⟩
                rw [hg] at L hlgx cel00 cel01 cel02 ⊢
                clear hg
                refine (HR2.out _ _ (isD_n (m := n) (e := f) (s := .slice B (zl n) d) (L.getN (v := .slice B (zl n) d) (x := (n).natAbs) (by simp)))).mono ?_
                rintro e w4 ⟨vq, rfl, iq, be⟩
                clear cel00 cel01 cel02 cel20 cel21 cel22 cel23 cel24 cel25
                replace L := (L.step be).q iq
                clear be iq
                (try go_wp2_with fail)
                refine (X2.out _ _ (L.getQ (by simp))).mono ?_
                rintro e w5 ⟨vq2, rfl, iq, be⟩
                obtain ⟨A2, c2, B2, k2, rfl, _, _, _⟩ := iq.form
                replace L := (L.step be).q iq
                clear be iq
                have hlgy := L.b0.lt
                replace L := L.varQ w5.heap.size rfl (ng a2) A2 B2 (zl a2) c2 (len d2) k2
                have cel00 := L.b0.c30
                have cel01 := L.b0.c31
                have cel02 := L.b0.c32
                have cel10 := L.tl.b0.c30
                have cel11 := L.tl.b0.c31
                have cel12 := L.tl.b0.c32
                go_wp2_with fail
                clear cel00 cel01 cel02 cel10 cel11 cel12
                obtain ⟨V, hV⟩ : ∃ V, w5.alloc (.cells #[.bool (ng a2), .slice A2 (zl a2) c2, .slice B2 (len d2) k2] 57) = V := ⟨_, rfl⟩
                have hK : w5.heap.size + 1 = V.heap.size := by rw [← hV]; simp
                rw [hV] at L ⊢
                rw [hK]
                clear hV hK
                obtain ⟨gy, hgy⟩ : ∃ g, w5.heap.size = g := ⟨_, rfl⟩
                rw [hgy] at L hlgy ⊢
                clear hgy
                have LV := Lib.hid L
                have hown := lit6_ra (w := V) (L.getQ (v := .agg #[.bool (ng a1), .slice A1 (zl a1) c1, .slice B1 (len d1) k1]) (a := a1) (d := d1) (by simp)) (L.getQ (v := .agg #[.bool (ng a2), .slice A2 (zl a2) c2, .slice B2 (len d2) k2]) (a := a2) (d := d2) (by simp))
                replace L := L.var V.heap.size rfl 57 #[.bool (ng a1), .slice A1 (zl a1) c1, .slice B1 (len d1) k1, .bool (ng a2), .slice A2 (zl a2) c2, .slice B2 (len d2) k2] (plainE _ _ _ _ _ _ _ _ _ _ _ _ _ _)
                obtain ⟨U, hU⟩ : ∃ U, V.alloc (.cells #[.bool (ng a1), .slice A1 (zl a1) c1, .slice B1 (len d1) k1, .bool (ng a2), .slice A2 (zl a2) c2, .slice B2 (len d2) k2] 57) = U := ⟨_, rfl⟩
                have hVU : Below V.heap.size V U := by rw [← hU]; exact (Below.refl _ V).alloc (Nat.le_refl _) _
                rw [hU] at L hown ⊢
                clear hU
                have HOWN := Lib.hid hown
                have LU := Lib.hid L
                replace L := L.rebase.drew
                clear hown
                have cel40 := L.tl.tl.tl.tl.b0.c60
                have cel41 := L.tl.tl.tl.tl.b0.c61
                have cel42 := L.tl.tl.tl.tl.b0.c62
                have cel43 := L.tl.tl.tl.tl.b0.c63
                have cel44 := L.tl.tl.tl.tl.b0.c64
                have cel45 := L.tl.tl.tl.tl.b0.c65
                refine wp_region_noPanic ?_
                refine wp_region_held_drew (S := fun w' => w'.cell? ⟨w.heap.size, 0, none⟩ = some (.bool (ng m)) ∧ w'.cell? ⟨w.heap.size, 1, none⟩ = some (.slice A (zl m) c) ∧ w'.cell? ⟨w.heap.size, 2, none⟩ = some (.int .i64 e) ∧ w'.cell? ⟨w.heap.size, 3, none⟩ = some (.bool (ng n)) ∧ w'.cell? ⟨w.heap.size, 4, none⟩ = some (.slice B (zl n) d) ∧ w'.cell? ⟨w.heap.size, 5, none⟩ = some (.int .i64 f)) (by kernel_rfl) ?rgsp4x (fun hHeld => ?rgrp4x)
                case rgsp4x => exact ⟨L.tl.tl.tl.tl.b0.c60, L.tl.tl.tl.tl.b0.c61, L.tl.tl.tl.tl.b0.c62, L.tl.tl.tl.tl.b0.c63, L.tl.tl.tl.tl.b0.c64, L.tl.tl.tl.tl.b0.c65⟩
                case rgrp4x =>
                  refine wpAnyH_take (i := 0) (oi := { dst := some 74, op := _, type := _, pos := _, after := _, guard := _ }) (v := ?vp4x0) rfl (by kernel_rfl) (by kernel_rfl) (by kernel_rfl) (fun _ _ _ h => h) (Or.inl ⟨by rfl, ?hyp4x0⟩) (by assumption) ?restp4x0
                  case hyp4x0 => (intro w hSw; (try dsimp only at hSw); go_simp; (try with_reducible rfl))
                  case restp4x0 =>
                    (try simp only [Act.put, List.setIfInBounds_toArray, List.set_cons_zero, List.set_cons_succ])
                    refine wpAnyH_take (i := 1) (oi := { dst := some 75, op := _, type := _, pos := _, after := _, guard := _ }) (v := ?vp4x1) rfl (by kernel_rfl) (by kernel_rfl) (by kernel_rfl) (fun _ _ _ h => h) (Or.inl ⟨by rfl, ?hyp4x1⟩) (by assumption) ?restp4x1
                    case hyp4x1 => (intro w hSw; (try dsimp only at hSw); go_simp; (try with_reducible rfl))
                    case restp4x1 =>
                      (try simp only [Act.put, List.setIfInBounds_toArray, List.set_cons_zero, List.set_cons_succ])
                      refine wpAnyH_take (i := 2) (oi := { dst := some 76, op := _, type := _, pos := _, after := _, guard := _ }) (v := ?vp4x2) rfl (by kernel_rfl) (by kernel_rfl) (by kernel_rfl) (fun _ _ _ h => h) (Or.inl ⟨by rfl, ?hyp4x2⟩) (by assumption) ?restp4x2
                      case hyp4x2 => (intro w hSw; (try dsimp only at hSw); go_simp; (try with_reducible rfl))
                      case restp4x2 =>
                        (try simp only [Act.put, List.setIfInBounds_toArray, List.set_cons_zero, List.set_cons_succ])
                        refine wpAnyH_take (i := 3) (oi := { dst := some 77, op := _, type := _, pos := _, after := _, guard := _ }) (v := ?vp4x3) rfl (by kernel_rfl) (by kernel_rfl) (by kernel_rfl) (fun _ _ _ h => h) (Or.inl ⟨by rfl, ?hyp4x3⟩) (by assumption) ?restp4x3
                        case hyp4x3 => (intro w hSw; (try dsimp only at hSw); go_simp; (try with_reducible rfl))
                        case restp4x3 =>
                          (try simp only [Act.put, List.setIfInBounds_toArray, List.set_cons_zero, List.set_cons_succ])
                          refine wpAnyH_take (i := 4) (oi := { dst := some 78, op := _, type := _, pos := _, after := _, guard := _ }) (v := ?vp4x4) rfl (by kernel_rfl) (by kernel_rfl) (by kernel_rfl) (fun _ _ _ h => h) (Or.inl ⟨by rfl, ?hyp4x4⟩) (by assumption) ?restp4x4
                          case hyp4x4 => (intro w hSw; (try dsimp only at hSw); go_simp; (try with_reducible rfl))
                          case restp4x4 =>
                            (try simp only [Act.put, List.setIfInBounds_toArray, List.set_cons_zero, List.set_cons_succ])
                            refine wpAnyH_take (i := 5) (oi := { dst := some 79, op := _, type := _, pos := _, after := _, guard := _ }) (v := ?vp4x5) rfl (by kernel_rfl) (by kernel_rfl) (by kernel_rfl) (fun _ _ _ h => h) (Or.inl ⟨by rfl, ?hyp4x5⟩) (by assumption) ?restp4x5
                            case hyp4x5 => (intro w hSw; (try dsimp only at hSw); go_simp; (try with_reducible rfl))
                            case restp4x5 =>
                              (try simp only [Act.put, List.setIfInBounds_toArray, List.set_cons_zero, List.set_cons_succ])
                              refine wpAnyH_take (i := 6) (oi := { dst := some 80, op := _, type := _, pos := _, after := _, guard := _ }) (v := ?vp4x6) rfl (by kernel_rfl) (by kernel_rfl) (by kernel_rfl) (fun _ _ _ h => h) (Or.inl ⟨by rfl, ?hyp4x6⟩) (by assumption) ?restp4x6
                              case hyp4x6 => (intro w hSw; (try dsimp only at hSw); go_simp; (try with_reducible rfl))
                              case restp4x6 =>
                                (try simp only [Act.put, List.setIfInBounds_toArray, List.set_cons_zero, List.set_cons_succ])
                                refine wpAnyH_take (i := 7) (oi := { dst := some 81, op := _, type := _, pos := _, after := _, guard := _ }) (v := ?vp4x7) rfl (by kernel_rfl) (by kernel_rfl) (by kernel_rfl) (fun _ _ _ h => h) (Or.inl ⟨by rfl, ?hyp4x7⟩) (by assumption) ?restp4x7
                                case hyp4x7 => (intro w hSw; (try dsimp only at hSw); go_simp; (try with_reducible rfl))
                                case restp4x7 =>
                                  (try simp only [Act.put, List.setIfInBounds_toArray, List.set_cons_zero, List.set_cons_succ])
                                  refine wpAnyH_take (i := 8) (oi := { dst := some 82, op := _, type := _, pos := _, after := _, guard := _ }) (v := ?vp4x8) rfl (by kernel_rfl) (by kernel_rfl) (by kernel_rfl) (fun _ _ _ h => h) (Or.inl ⟨by rfl, ?hyp4x8⟩) (by assumption) ?restp4x8
                                  case hyp4x8 => (intro w hSw; (try dsimp only at hSw); go_simp; (try with_reducible rfl))
                                  case restp4x8 =>
                                    (try simp only [Act.put, List.setIfInBounds_toArray, List.set_cons_zero, List.set_cons_succ])
                                    refine wpAnyH_ready (rs := [9]) (by kernel_rfl) (by simp) ?_
                                    refine AllReadyH.cons rfl (fun K hK => ?_) AllReadyH.nil
                                    go_simp
                                    go_at_call 66
                                    refine (HO.out _ ).mono ?_
                                    
                                    rintro e wh ⟨vh, rfl, iq, be⟩
                                    replace L := (L.step be).q iq
                                    clear be iq
                                    go_wp2_with fail
                                    refine hK.out _ _ (by first | (with_reducible exact ⟨L.tl.tl.tl.tl.b0.c60, L.tl.tl.tl.tl.b0.c61, L.tl.tl.tl.tl.b0.c62, L.tl.tl.tl.tl.b0.c63, L.tl.tl.tl.tl.b0.c64, L.tl.tl.tl.tl.b0.c65⟩) | exact ⟨L.tl.tl.tl.tl.b0.c60, L.tl.tl.tl.tl.b0.c61, L.tl.tl.tl.tl.b0.c62, L.tl.tl.tl.tl.b0.c63, L.tl.tl.tl.tl.b0.c64, L.tl.tl.tl.tl.b0.c65⟩) (fun hHeld2 => ?_)
                                    clear hK K hHeld
                                    have hHeld := hHeld2
                                    clear hHeld2
                                    (try simp only [Act.put, List.setIfInBounds_toArray, List.set_cons_zero, List.set_cons_succ])
                                    refine wpAnyH_ready (rs := [10]) (by kernel_rfl) (by simp) ?_
                                    refine AllReadyH.cons rfl (fun K hK => ?_) AllReadyH.nil
                                    go_simp
                                    go_at_call 33
                                    refine (HH.out _ _ _ ?_ ?_ ).mono ?_
                                    · (refine isI_n (L.getN ?_) (L.getN ?_) <;> (repeat (first | (with_reducible exact List.mem_cons_self) | apply List.mem_cons_of_mem)))
                                    · (refine L.getQ ?_; (repeat (first | (with_reducible exact List.mem_cons_self) | apply List.mem_cons_of_mem)))
                                    rintro e wh ⟨rfl, be⟩
                                    replace L := L.step be
                                    clear be
                                    go_wp2_with fail
                                    refine hK.out _ _ (by first | (with_reducible exact ⟨L.tl.tl.tl.tl.b0.c60, L.tl.tl.tl.tl.b0.c61, L.tl.tl.tl.tl.b0.c62, L.tl.tl.tl.tl.b0.c63, L.tl.tl.tl.tl.b0.c64, L.tl.tl.tl.tl.b0.c65⟩) | exact ⟨L.tl.tl.tl.tl.b0.c60, L.tl.tl.tl.tl.b0.c61, L.tl.tl.tl.tl.b0.c62, L.tl.tl.tl.tl.b0.c63, L.tl.tl.tl.tl.b0.c64, L.tl.tl.tl.tl.b0.c65⟩) (fun hHeld2 => ?_)
                                    clear hK K hHeld
                                    have hHeld := hHeld2
                                    clear hHeld2
                                    (try simp only [Act.put, List.setIfInBounds_toArray, List.set_cons_zero, List.set_cons_succ])
                                    refine wpAnyH_take (i := 11) (oi := { dst := some 85, op := _, type := _, pos := _, after := _, guard := _ }) (v := ?vp4x11) rfl (by kernel_rfl) (by kernel_rfl) (by kernel_rfl) (fun _ _ _ h => h) (Or.inl ⟨by rfl, ?hyp4x11⟩) (by assumption) ?restp4x11
                                    case hyp4x11 => (intro w hSw; (try dsimp only at hSw); go_simp; (try with_reducible rfl))
                                    case restp4x11 =>
                                      (try simp only [Act.put, List.setIfInBounds_toArray, List.set_cons_zero, List.set_cons_succ])
                                      refine wpAnyH_done (by kernel_rfl) ?_ _
                                      refine NoPanic.normal ?_
                                      (try go_wp2_with fail)
                                      refine (HO.out _).mono ?_
                                      rintro e w51 ⟨vq, rfl, iq, be⟩
                                      obtain ⟨A5, c5, B5, k5, rfl, _, _, _⟩ := iq.form
                                      replace L := (L.step be).q iq
                                      clear be iq
                                      have hVs := hVU.size
                                      go_wp2_with (at_builtin; refine wp_appRa _ rfl _ _ rfl V.heap.size _ [(a1, d1), (a2, d2)] rfl (HOWN.out.below (L.below.alloc L.below.size _)) _ 1 rfl (lit3_cells12 _ _ _ _ _ _ (by simp)) ((L.getQ (v := .agg #[.bool (ng 0), .slice A5 (zl 0) c5, .slice B5 (len 1) k5]) (a := 0) (d := 1) (by simp)).mono ((Below.refl _ _).alloc (Nat.le_refl _) _)) (by simp) (Nat.le_trans hVs (Nat.le_trans L.below.size (by simp))) ?_)
                                      intro v2 w2 h2 g2 _
                                      have b2 : Below V.heap.size V w2 := ((hVU.trans (L.below.mono hVs)).alloc (Nat.le_trans hVs L.below.size) _).grown g2 (Nat.le_trans hVs (Nat.le_trans L.below.size (by simp))) (fun k hk => HOWN.out.blockGe k hk)
                                      replace L := LV.out.step b2
                                      clear g2 HOWN LU LV b2
                                      (try go_wp2_with fail)
                                      refine (HEN.out _ _ (show RowR _ _ [(a1, d1), (a2, d2), (0, 1)] from h2.row (by simp))).mono ?_
                                      intro e9 w19 hen
                                      obtain ⟨v19, er, m9, e9', n9, f9, rfl, ii, be, hback⟩ := hen.form
                                      obtain ⟨A5, c5, B5, d5, rfl, ia, ib⟩ := ii.form
                                      replace L := (((L.step be).n ib).n ia).pick [(w.heap.size + 1, 28, #[.bool false, .slice none 0 0, .int .i64 0, .bool false, .slice none 0 0, .int .i64 0])] (by simp)
                                      clear be ii ia ib hen
                                      have HBK := Lib.hid hback
                                      clear hback
                                      have cel00 := L.b0.c60
                                      have f00 := L.b0.fr 0
                                      have cel01 := L.b0.c61
                                      have f01 := L.b0.fr 1
                                      have cel02 := L.b0.c62
                                      have f02 := L.b0.fr 2
                                      have cel03 := L.b0.c63
                                      have f03 := L.b0.fr 3
                                      have cel04 := L.b0.c64
                                      have f04 := L.b0.fr 4
                                      have cel05 := L.b0.c65
                                      have f05 := L.b0.fr 5
                                      go_wp2_with fail
                                      have LP := L.putI (by omega) (by first | (simp; done) | (simp; omega)) (ng m9) A5 (zl m9) c5 e9' (ng n9) B5 (zl n9) d5 f9
                                      have k0' := LP.b0.c60
                                      have k1' := LP.b0.c61
                                      have k2' := LP.b0.c62
                                      have k3' := LP.b0.c63
                                      have k4' := LP.b0.c64
                                      have k5' := LP.b0.c65
                                      unfold put6 at k0' k1' k2' k3' k4' k5'
                                      exact bodyPost_ret (v := .tuple #[.agg #[.bool (ng m9), .slice A5 (zl m9) c5, .int .i64 e9', .bool (ng n9), .slice B5 (zl n9) d5, .int .i64 f9], .int .i64 er]) (by simp [results, Tryz.results28, go_sem, k0', k1', k2', k3', k4', k5']) rfl (HBK.out _ _ _ (isI_n (LP.getN (by simp)) (LP.getN (by simp))) LP.below)
          · have b5 : decide (0 < j) = false := decide_eq_false (by omega)
            obtain ⟨i1, i2⟩ := im_two (s := sb) (p := (a1, d1)) (q := (a2, d2)) q3 q6 (by
              cases sb
              · exact Or.inr ⟨rfl, (sc1 rfl).1, (sc1 rfl).2, Or.inl (by omega)⟩
              · exact Or.inl rfl)
            have hbs9 : ∀ p ∈ [(a1, d1), (a2, d2)], zl p.1 ≤ 800 ∧ len p.2 ≤ 800 ∧ 0 < p.2 := fun p hp => by
              simp only [List.mem_cons, List.not_mem_nil, or_false] at hp
              rcases hp with rfl | rfl
              · exact ⟨q1, q2, o1⟩
              · exact ⟨q4, q5, o2⟩
            have HEN := Lib.hid (fun v W (h : RowR W v [(a1, d1), (a2, d2)]) => rencl_any [(a1, d1), (a2, d2)] _ _ k v W h (by simp) (by simp) hbs9 i1 i2 hk1 hk2)
            obtain ⟨lo, hlo⟩ : ∃ z, plo sb (dq m e) (dq n f) j = z := ⟨_, rfl⟩
            obtain ⟨hi, hhi⟩ : ∃ z, phi sb (dq m e) (dq n f) j = z := ⟨_, rfl⟩
            rw [hlo, hhi] at HEN ⊢
            have X1 := Lib.hid x1
            have X2 := Lib.hid x2
            clear x1 x2 o1 o2 q1 q2 q3 q4 q5 q6 i1 i2 hlo hhi sc1 sc2 hnz HX HY hw pb1 pb2 hj hk1 hk2 hbs9 gh hh hj0
            go_enter Tryz.func28, Tryz.ntmps28
            go_wp2_with fail
            have L := ((L0.varI (w.heap.size) (by simp) (ng m) A (zl m) c e (ng n) B (zl n) d f).varI (w.heap.size + 1) (by simp) false none 0 0 0 false none 0 0 0)
            have c00 := L.b0.c60
            have f00 := L.b0.fr 0
            have c01 := L.b0.c61
            have f01 := L.b0.fr 1
            have c02 := L.b0.c62
            have f02 := L.b0.fr 2
            have c03 := L.b0.c63
            have f03 := L.b0.fr 3
            have c04 := L.b0.c64
            have f04 := L.b0.fr 4
            have c05 := L.b0.c65
            have f05 := L.b0.fr 5
            have c10 := L.tl.b0.c60
            have c11 := L.tl.b0.c61
            have c12 := L.tl.b0.c62
            have c13 := L.tl.b0.c63
            have c14 := L.tl.b0.c64
            have c15 := L.tl.b0.c65
            (try go_wp2_with fail)
            refine (HS.out _ _ (isI_n (m := m) (e := e) (n := n) (f := f) (L.getN (v := .slice A (zl m) c) (x := (m).natAbs) (by simp)) (L.getN (v := .slice B (zl n) d) (x := (n).natAbs) (by simp)))).mono ?_
            rintro e w1 ⟨rfl, be⟩
            clear c00 f00 c01 f01 c02 f02 c03 f03 c04 f04 c05 f05 c10 c11 c12 c13 c14 c15
            replace L := L.step be
            clear be
            have c10 := L.tl.b0.c60
            have c11 := L.tl.b0.c61
            have c12 := L.tl.b0.c62
            have c13 := L.tl.b0.c63
            have c14 := L.tl.b0.c64
            have c15 := L.tl.b0.c65
            (try go_wp2_with fail)
            refine (HW.out _).mono ?_
            rintro e9 w' ⟨rfl, rfl⟩
            (try go_wp2_with fail)
            clear c10 c11 c12 c13 c14 c15
            refine (HR1.out _ _ (isD_n (m := m) (e := e) (s := .slice A (zl m) c) (L.getN (v := .slice A (zl m) c) (x := (m).natAbs) (by simp)))).mono ?_
            rintro e w2 ⟨vq, rfl, iq, be⟩
            replace L := (L.step be).q iq
            clear be iq
            (try go_wp2_with fail)
            refine (X1.out _ _ (L.getQ (by simp))).mono ?_
            rintro e w3 ⟨vq2, rfl, iq, be⟩
            obtain ⟨A1, c1, B1, k1, rfl, _, _, _⟩ := iq.form
            replace L := (L.step be).q iq
            clear be iq
            have hlgx := L.b0.lt
            replace L := L.varQ w3.heap.size rfl (ng a1) A1 B1 (zl a1) c1 (len d1) k1
            have cel00 := L.b0.c30
            have cel01 := L.b0.c31
            have cel02 := L.b0.c32
            have cel20 := L.tl.tl.b0.c60
            have cel21 := L.tl.tl.b0.c61
            have cel22 := L.tl.tl.b0.c62
            have cel23 := L.tl.tl.b0.c63
            have cel24 := L.tl.tl.b0.c64
            have cel25 := L.tl.tl.b0.c65
            go_wp2_with fail
            obtain ⟨gx, hg⟩ : ∃ g, w3.heap.size = g := ⟨_, rfl⟩
            rw [hg] at L hlgx cel00 cel01 cel02 ⊢
            clear hg
            refine (HR2.out _ _ (isD_n (m := n) (e := f) (s := .slice B (zl n) d) (L.getN (v := .slice B (zl n) d) (x := (n).natAbs) (by simp)))).mono ?_
            rintro e w4 ⟨vq, rfl, iq, be⟩
            clear cel00 cel01 cel02 cel20 cel21 cel22 cel23 cel24 cel25
            replace L := (L.step be).q iq
            clear be iq
            (try go_wp2_with fail)
            refine (X2.out _ _ (L.getQ (by simp))).mono ?_
            rintro e w5 ⟨vq2, rfl, iq, be⟩
            obtain ⟨A2, c2, B2, k2, rfl, _, _, _⟩ := iq.form
            replace L := (L.step be).q iq
            clear be iq
            have hlgy := L.b0.lt
            replace L := L.varQ w5.heap.size rfl (ng a2) A2 B2 (zl a2) c2 (len d2) k2
            have cel00 := L.b0.c30
            have cel01 := L.b0.c31
            have cel02 := L.b0.c32
            have cel10 := L.tl.b0.c30
            have cel11 := L.tl.b0.c31
            have cel12 := L.tl.b0.c32
            go_wp2_with fail
            clear cel00 cel01 cel02 cel10 cel11 cel12
            obtain ⟨V, hV⟩ : ∃ V, w5.alloc (.cells #[.bool (ng a2), .slice A2 (zl a2) c2, .slice B2 (len d2) k2] 57) = V := ⟨_, rfl⟩
            have hK : w5.heap.size + 1 = V.heap.size := by rw [← hV]; simp
            rw [hV] at L ⊢
            rw [hK]
            clear hV hK
            obtain ⟨gy, hgy⟩ : ∃ g, w5.heap.size = g := ⟨_, rfl⟩
            rw [hgy] at L hlgy ⊢
            clear hgy
            have LV := Lib.hid L
            have hown := lit6_ra (w := V) (L.getQ (v := .agg #[.bool (ng a1), .slice A1 (zl a1) c1, .slice B1 (len d1) k1]) (a := a1) (d := d1) (by simp)) (L.getQ (v := .agg #[.bool (ng a2), .slice A2 (zl a2) c2, .slice B2 (len d2) k2]) (a := a2) (d := d2) (by simp))
            replace L := L.var V.heap.size rfl 57 #[.bool (ng a1), .slice A1 (zl a1) c1, .slice B1 (len d1) k1, .bool (ng a2), .slice A2 (zl a2) c2, .slice B2 (len d2) k2] (plainE _ _ _ _ _ _ _ _ _ _ _ _ _ _)
            obtain ⟨U, hU⟩ : ∃ U, V.alloc (.cells #[.bool (ng a1), .slice A1 (zl a1) c1, .slice B1 (len d1) k1, .bool (ng a2), .slice A2 (zl a2) c2, .slice B2 (len d2) k2] 57) = U := ⟨_, rfl⟩
            have hVU : Below V.heap.size V U := by rw [← hU]; exact (Below.refl _ V).alloc (Nat.le_refl _) _
            rw [hU] at L hown ⊢
            clear hU
            have HOWN := Lib.hid hown
            have LU := Lib.hid L
            replace L := L.rebase.drew
            clear hown
            have cel40 := L.tl.tl.tl.tl.b0.c60
            have cel41 := L.tl.tl.tl.tl.b0.c61
            have cel42 := L.tl.tl.tl.tl.b0.c62
            have cel43 := L.tl.tl.tl.tl.b0.c63
            have cel44 := L.tl.tl.tl.tl.b0.c64
            have cel45 := L.tl.tl.tl.tl.b0.c65
            refine wp_region_noPanic ?_
            refine wp_region_held_drew (S := fun w' => w'.cell? ⟨w.heap.size, 0, none⟩ = some (.bool (ng m)) ∧ w'.cell? ⟨w.heap.size, 1, none⟩ = some (.slice A (zl m) c) ∧ w'.cell? ⟨w.heap.size, 2, none⟩ = some (.int .i64 e) ∧ w'.cell? ⟨w.heap.size, 3, none⟩ = some (.bool (ng n)) ∧ w'.cell? ⟨w.heap.size, 4, none⟩ = some (.slice B (zl n) d) ∧ w'.cell? ⟨w.heap.size, 5, none⟩ = some (.int .i64 f)) (by kernel_rfl) ?rgsp5x (fun hHeld => ?rgrp5x)
            case rgsp5x => exact ⟨L.tl.tl.tl.tl.b0.c60, L.tl.tl.tl.tl.b0.c61, L.tl.tl.tl.tl.b0.c62, L.tl.tl.tl.tl.b0.c63, L.tl.tl.tl.tl.b0.c64, L.tl.tl.tl.tl.b0.c65⟩
            case rgrp5x =>
              refine wpAnyH_take (i := 0) (oi := { dst := some 74, op := _, type := _, pos := _, after := _, guard := _ }) (v := ?vp5x0) rfl (by kernel_rfl) (by kernel_rfl) (by kernel_rfl) (fun _ _ _ h => h) (Or.inl ⟨by rfl, ?hyp5x0⟩) (by assumption) ?restp5x0
              case hyp5x0 => (intro w hSw; (try dsimp only at hSw); go_simp; (try with_reducible rfl))
              case restp5x0 =>
                (try simp only [Act.put, List.setIfInBounds_toArray, List.set_cons_zero, List.set_cons_succ])
                refine wpAnyH_take (i := 1) (oi := { dst := some 75, op := _, type := _, pos := _, after := _, guard := _ }) (v := ?vp5x1) rfl (by kernel_rfl) (by kernel_rfl) (by kernel_rfl) (fun _ _ _ h => h) (Or.inl ⟨by rfl, ?hyp5x1⟩) (by assumption) ?restp5x1
                case hyp5x1 => (intro w hSw; (try dsimp only at hSw); go_simp; (try with_reducible rfl))
                case restp5x1 =>
                  (try simp only [Act.put, List.setIfInBounds_toArray, List.set_cons_zero, List.set_cons_succ])
                  refine wpAnyH_take (i := 2) (oi := { dst := some 76, op := _, type := _, pos := _, after := _, guard := _ }) (v := ?vp5x2) rfl (by kernel_rfl) (by kernel_rfl) (by kernel_rfl) (fun _ _ _ h => h) (Or.inl ⟨by rfl, ?hyp5x2⟩) (by assumption) ?restp5x2
                  case hyp5x2 => (intro w hSw; (try dsimp only at hSw); go_simp; (try with_reducible rfl))
                  case restp5x2 =>
                    (try simp only [Act.put, List.setIfInBounds_toArray, List.set_cons_zero, List.set_cons_succ])
                    refine wpAnyH_take (i := 3) (oi := { dst := some 77, op := _, type := _, pos := _, after := _, guard := _ }) (v := undef) rfl (by kernel_rfl) (by kernel_rfl) (by kernel_rfl) (fun _ _ _ h => h) (Or.inr ⟨by rfl, rfl⟩) (by assumption) ?_
                    (try simp only [Act.put, List.setIfInBounds_toArray, List.set_cons_zero, List.set_cons_succ])
                    refine wpAnyH_take (i := 4) (oi := { dst := some 78, op := _, type := _, pos := _, after := _, guard := _ }) (v := undef) rfl (by kernel_rfl) (by kernel_rfl) (by kernel_rfl) (fun _ _ _ h => h) (Or.inr ⟨by rfl, rfl⟩) (by assumption) ?_
                    (try simp only [Act.put, List.setIfInBounds_toArray, List.set_cons_zero, List.set_cons_succ])
                    refine wpAnyH_take (i := 5) (oi := { dst := some 79, op := _, type := _, pos := _, after := _, guard := _ }) (v := undef) rfl (by kernel_rfl) (by kernel_rfl) (by kernel_rfl) (fun _ _ _ h => h) (Or.inr ⟨by rfl, rfl⟩) (by assumption) ?_
                    (try simp only [Act.put, List.setIfInBounds_toArray, List.set_cons_zero, List.set_cons_succ])
                    refine wpAnyH_take (i := 6) (oi := { dst := some 80, op := _, type := _, pos := _, after := _, guard := _ }) (v := ?vp5x6) rfl (by kernel_rfl) (by kernel_rfl) (by kernel_rfl) (fun _ _ _ h => h) (Or.inl ⟨by rfl, ?hyp5x6⟩) (by assumption) ?restp5x6
                    case hyp5x6 => (intro w hSw; (try dsimp only at hSw); go_simp; (try with_reducible rfl))
                    case restp5x6 =>
                      (try simp only [Act.put, List.setIfInBounds_toArray, List.set_cons_zero, List.set_cons_succ])
                      refine wpAnyH_take (i := 7) (oi := { dst := some 81, op := _, type := _, pos := _, after := _, guard := _ }) (v := ?vp5x7) rfl (by kernel_rfl) (by kernel_rfl) (by kernel_rfl) (fun _ _ _ h => h) (Or.inl ⟨by rfl, ?hyp5x7⟩) (by assumption) ?restp5x7
                      case hyp5x7 => (intro w hSw; (try dsimp only at hSw); go_simp; (try with_reducible rfl))
                      case restp5x7 =>
                        (try simp only [Act.put, List.setIfInBounds_toArray, List.set_cons_zero, List.set_cons_succ])
                        refine wpAnyH_take (i := 8) (oi := { dst := some 82, op := _, type := _, pos := _, after := _, guard := _ }) (v := undef) rfl (by kernel_rfl) (by kernel_rfl) (by kernel_rfl) (fun _ _ _ h => h) (Or.inr ⟨by rfl, rfl⟩) (by assumption) ?_
                        (try simp only [Act.put, List.setIfInBounds_toArray, List.set_cons_zero, List.set_cons_succ])
                        refine wpAnyH_take (i := 9) (oi := { dst := some 83, op := _, type := _, pos := _, after := _, guard := _ }) (v := undef) rfl (by kernel_rfl) (by kernel_rfl) (by kernel_rfl) (fun _ _ _ h => h) (Or.inr ⟨by rfl, rfl⟩) (by assumption) ?_
                        (try simp only [Act.put, List.setIfInBounds_toArray, List.set_cons_zero, List.set_cons_succ])
                        refine wpAnyH_take (i := 10) (oi := { dst := some 84, op := _, type := _, pos := _, after := _, guard := _ }) (v := undef) rfl (by kernel_rfl) (by kernel_rfl) (by kernel_rfl) (fun _ _ _ h => h) (Or.inr ⟨by rfl, rfl⟩) (by assumption) ?_
                        (try simp only [Act.put, List.setIfInBounds_toArray, List.set_cons_zero, List.set_cons_succ])
                        refine wpAnyH_take (i := 11) (oi := { dst := some 85, op := _, type := _, pos := _, after := _, guard := _ }) (v := ?vp5x11) rfl (by kernel_rfl) (by kernel_rfl) (by kernel_rfl) (fun _ _ _ h => h) (Or.inl ⟨by rfl, ?hyp5x11⟩) (by assumption) ?restp5x11
                        case hyp5x11 => (intro w hSw; (try dsimp only at hSw); go_simp; (try with_reducible rfl))
                        case restp5x11 =>
                          (try simp only [Act.put, List.setIfInBounds_toArray, List.set_cons_zero, List.set_cons_succ])
                          refine wpAnyH_done (by kernel_rfl) ?_ _
                          refine NoPanic.normal ?_
                          (try go_wp2_with fail)
                          replace L := LU.out.step L.below
                          refine (HEN.out _ _ (rowR_2 L.b0 (L.getQ (by simp)) (L.getQ (by simp)))).mono ?_
                          intro e9 w19 hen
                          obtain ⟨v19, er, m9, e9', n9, f9, rfl, ii, be, hback⟩ := hen.form
                          obtain ⟨A5, c5, B5, d5, rfl, ia, ib⟩ := ii.form
                          replace L := (((L.step be).n ib).n ia).pick [(w.heap.size + 1, 28, #[.bool false, .slice none 0 0, .int .i64 0, .bool false, .slice none 0 0, .int .i64 0])] (by simp)
                          clear be ii ia ib hen
                          have HBK := Lib.hid hback
                          clear hback
                          have cel00 := L.b0.c60
                          have f00 := L.b0.fr 0
                          have cel01 := L.b0.c61
                          have f01 := L.b0.fr 1
                          have cel02 := L.b0.c62
                          have f02 := L.b0.fr 2
                          have cel03 := L.b0.c63
                          have f03 := L.b0.fr 3
                          have cel04 := L.b0.c64
                          have f04 := L.b0.fr 4
                          have cel05 := L.b0.c65
                          have f05 := L.b0.fr 5
                          go_wp2_with fail
                          have LP := L.putI (by omega) (by first | (simp; done) | (simp; omega)) (ng m9) A5 (zl m9) c5 e9' (ng n9) B5 (zl n9) d5 f9
                          have k0' := LP.b0.c60
                          have k1' := LP.b0.c61
                          have k2' := LP.b0.c62
                          have k3' := LP.b0.c63
                          have k4' := LP.b0.c64
                          have k5' := LP.b0.c65
                          unfold put6 at k0' k1' k2' k3' k4' k5'
                          exact bodyPost_ret (v := .tuple #[.agg #[.bool (ng m9), .slice A5 (zl m9) c5, .int .i64 e9', .bool (ng n9), .slice B5 (zl n9) d5, .int .i64 f9], .int .i64 er]) (by simp [results, Tryz.results28, go_sem, k0', k1', k2', k3', k4', k5']) rfl (HBK.out _ _ _ (isI_n (LP.getN (by simp)) (LP.getN (by simp))) LP.below)

end Go.Proofs.YthfabjpbdgieoaaGreatDoor
