/- The program's Decimal and Parse of fractions. -/
import Derived.Test.YtbndgggjfjdfbabGreatDoorTx3
import Derived.Test.YtbndgggjfjdfbabGreatDoorRatP
import Derived.Test.YtbndgggjfjdfbabGreatDoorBaseR
import Derived.Test.YtbndgggjfjdfbabGreatDoorBaseN
import Derived.Deep.RegionHeld3
import Derived.Deep.DrawnRows
namespace Go.Proofs.YtbndgggjfjdfbabGreatDoor
open Go.RowKit
set_option linter.unusedVariables false
set_option linter.unusedSimpArgs false
set_option maxRecDepth 100000
attribute [local go_sem ↓] Go.wp_at_zero Go.wp_at_succ

/-- What Decimal returns of a number that is not negative. -/
def RetDec (w : World) (a : Int) (d : Nat) (e : Ending) (w' : World) : Prop :=
  (∃ n, Hid (d = 2 ^ tz d * 5 ^ n) ∧ RetSB w (pt (dd (a.natAbs * (2 ^ (max (tz d) n - tz d) * 5 ^ (max (tz d) n - n)))) (max (tz d) n)) true e w') ∨ (Hid (∀ u f, d ≠ 2 ^ u * 5 ^ f) ∧ RetSB w [] false e w')
theorem five_le {n l d : Nat} (h : d = 2 ^ tz d * 5 ^ n) (h0 : 0 < d) (hl : len d ≤ l) : n ≤ 32 * l := by
  have h1 : d < W32 ^ l := len_le_iff.1 hl
  have h3 : W32 ^ l = 2 ^ (32 * l) := by
    unfold W32
    rw [show 4294967296 = 2 ^ 32 from by decide, ← Nat.pow_mul]
  rw [h3] at h1
  have h2 : 2 ^ n ≤ d := by
    have h4 : 2 ^ n ≤ 5 ^ n := Nat.pow_le_pow_left (by omega) _
    have h5 : 1 * 5 ^ n ≤ 2 ^ tz d * 5 ^ n := Nat.mul_le_mul_right _ (Nat.pow_pos (by omega))
    rw [← h] at h5
    omega
  exact Nat.le_of_lt ((Nat.pow_lt_pow_iff_right (a := 2) (by omega)).1 (Nat.lt_of_le_of_lt h2 h1))
theorem pow_len {b k : Nat} (hb : b ≤ 10) (hk : k ≤ 2000) : len (b ^ k) ≤ 2001 := by
  have h1 := len_pow b k
  have h2 : len b ≤ 1 := len_le1 (by omega)
  have h3 : k * len b ≤ 2000 * 1 := Nat.mul_le_mul hk h2
  omega
theorem max_val (a b : Nat) : max (a : Int) (b : Int) = ((max a b : Nat) : Int) := by omega

set_option maxHeartbeats 1000000 in
theorem pdec_neg (a : Int) (d : Nat) (vx : Value) (w : World) (hx : IsP w vx a d) (la : zl a ≤ 1000) (h0 : a < 0) :
    Calls Tryz.prog 20 #[vx] w (RetSB w [] false) := by
  have HS := Lib.hid (fun v W h => psign_any a d v W h (by omega))
  obtain ⟨A, c, B, g, rfl, _, _, _⟩ := hx.form
  rw [cmpI_lt h0] at HS
  have L0 := (Lq.mk0 w).q hx
  clear hx h0 la
  go_enter Tryz.func20, Tryz.ntmps20
  go_wp2_with fail
  have L := (L0.varQ (w.heap.size) (by simp) (ng a) A B (zl a) c (len d) g)
  have c00 := L.b0.c30
  have f00 := L.b0.fr 0
  have c01 := L.b0.c31
  have f01 := L.b0.fr 1
  have c02 := L.b0.c32
  have f02 := L.b0.fr 2
  refine (HS.out _ _ (L.getQ (by simp))).mono ?_
  rintro e w1 ⟨rfl, be⟩
  clear c00 f00 c01 f01 c02 f02
  replace L := L.step be
  clear be
  go_wp2_with fail
  go_ret2
  exact ⟨rfl, L.below⟩
set_option maxHeartbeats 2000000 in
theorem pdec_nn (a : Int) (d : Nat) (vx : Value) (w : World) (hx : IsP w vx a d) (la : zl a ≤ 1000) (ld : len d ≤ 60) (hd0 : 0 < d) (h0 : 0 ≤ a) (hT : Tab w) :
    Calls Tryz.prog 20 #[vx] w (RetDec w a d) := by
  have HS := Lib.hid (fun v W h => psign_any a d v W h (by omega))
  obtain ⟨A, c, B, g, rfl, _, hna, hnd⟩ := hx.form
  have hK : decide (cmpI a 0 < 0) = false := by
    rcases Int.lt_or_eq_of_le h0 with h | h
    · rw [cmpI_gt h]; rfl
    · rw [← h, cmpI_eq]; rfl
  generalize cmpI a 0 = K at *
  have L0 := (((Lq.mk0 w).q hx).n hna).n hnd
  have HZ := Lib.hid (fun v W h h2 => nzeros_any d v W h (by omega) h2)
  have hu : tz d ≤ 1920 := by have := tz_le d hd0; omega
  have HSh := Lib.hid (fun v W h => shrK_any d (tz d) v W h (by omega) (by omega))
  have HC := Lib.hid (fun v W h => countFives_any (d / 2 ^ tz d) v W h (Nat.le_trans (len_mono (Nat.div_le_self _ _)) (by omega)))
  have HD2 := Lib.hid (show 2 ^ tz d * (d / 2 ^ tz d) = d from by
    obtain ⟨m, hm⟩ := tz_form hd0
    exact Nat.mul_div_cancel' ⟨_, hm⟩)
  have HT := Lib.hid (fun W (hW : Below w.heap.size w W) => hT.mono hW)
  have HL := Lib.hid (show len d ≤ 60 ∧ 0 < d ∧ zl a ≤ 1000 from ⟨ld, hd0, la⟩)
  clear hx hna hnd h0 hT hd0 ld la
  obtain ⟨u, hue⟩ : ∃ u, tz d = u := ⟨_, rfl⟩
  rw [hue] at hu HZ HSh HC HD2
  obtain ⟨r, hr⟩ : ∃ r, d / 2 ^ u = r := ⟨_, rfl⟩
  rw [hr] at HSh HC HD2
  unfold RetDec
  rw [hue]
  have HU := Lib.hid hue
  clear hr hue
  go_enter Tryz.func20, Tryz.ntmps20
  go_wp2_with fail
  have L := (L0.varQ (w.heap.size) (by simp) (ng a) A B (zl a) c (len d) g)
  have c00 := L.b0.c30
  have f00 := L.b0.fr 0
  have c01 := L.b0.c31
  have f01 := L.b0.fr 1
  have c02 := L.b0.c32
  have f02 := L.b0.fr 2
  refine (HS.out _ _ (L.getQ (by simp))).mono ?_
  rintro e w1 ⟨rfl, be⟩
  clear c00 f00 c01 f01 c02 f02
  replace L := L.step be
  clear be
  have c00 := L.b0.c30
  have f00 := L.b0.fr 0
  have c01 := L.b0.c31
  have f01 := L.b0.fr 1
  have c02 := L.b0.c32
  have f02 := L.b0.fr 2
  go_wp2_with fail
  refine (HZ.out _ _ (L.getN (by simp)) (HT.out _ L.below)).mono ?_
  rintro e w' ⟨rfl, rfl⟩
  go_wp2_with fail
  refine (HSh.out _ _ (L.getN (by simp))).mono ?_
  rintro e w2 ⟨v2, rfl, o⟩
  clear c00 f00 c01 f01 c02 f02
  replace L := (L.step o.below).n o.isN
  clear o
  have c00 := L.b0.c30
  have f00 := L.b0.fr 0
  have c01 := L.b0.c31
  have f01 := L.b0.fr 1
  have c02 := L.b0.c32
  have f02 := L.b0.fr 2
  go_wp2_with fail
  refine (HC.out _ _ L.hn).mono ?_
  rintro e w3 ⟨n, ok, rfl, be, HO, hn4⟩
  clear c00 f00 c01 f01 c02 f02
  replace L := L.step be
  clear be
  have c00 := L.b0.c30
  have f00 := L.b0.fr 0
  have c01 := L.b0.c31
  have f01 := L.b0.fr 1
  have c02 := L.b0.c32
  have f02 := L.b0.fr 2
  cases ok
  · have HF := Lib.hid (show ∀ u' f', d ≠ 2 ^ u' * 5 ^ f' from fun u' f' e => by
      have h1 : u' = u := by rw [← HU.out, e, tz_25]
      subst h1
      have h2 : 2 ^ u' * r = 2 ^ u' * 5 ^ f' := by rw [HD2.out]; exact e
      exact HO.out.2 rfl f' (Nat.eq_of_mul_eq_mul_left (Nat.pow_pos (by omega)) h2))
    go_wp2_with fail
    go_ret2
    exact .inr ⟨HF.out, rfl, L.below⟩
  · have hd5 : d = 2 ^ u * 5 ^ n := by rw [← HD2.out, ← HO.out.1 rfl]
    have hd6 : d = 2 ^ tz d * 5 ^ n := by rw [HU.out]; exact hd5
    have hn5 := five_le hd6 HL.out.2.1 HL.out.1
    have HD5 := Lib.hid hd5
    obtain ⟨m, hm⟩ : ∃ m, max u n = m := ⟨_, rfl⟩
    have hmx := max_val u n
    rw [hm] at hmx
    obtain ⟨p, hp⟩ : ∃ p, m - u = p := ⟨_, rfl⟩
    obtain ⟨q, hq⟩ : ∃ q, m - n = q := ⟨_, rfl⟩
    have e1 : (m : Int) - (u : Int) = (p : Int) := by omega
    have e2 : (m : Int) - (n : Int) = (q : Int) := by omega
    have hm3 : m ≤ 1920 := by omega
    have hp3 : p ≤ 1920 := by omega
    have hq3 : q ≤ 1920 := by omega
    have l1 := pow_len (b := 2) (k := p) (by omega) (by omega)
    have l2 := pow_len (b := 5) (k := q) (by omega) (by omega)
    have l3 := len_mul (2 ^ p) (5 ^ q)
    have l4 := len_mul a.natAbs (2 ^ p * 5 ^ q)
    have hla : len a.natAbs ≤ 1000 := HL.out.2.2
    have l5 := dd_length (x := a.natAbs * (2 ^ p * 5 ^ q)) (n := 6000) (by omega)
    have P1 := Lib.hid (fun W => ppow_any 2 (by omega) p (by omega) W)
    have P2 := Lib.hid (fun W => ppow_any 5 (by omega) q (by omega) W)
    have P3 := Lib.hid (fun v u' W h1 h2 => mul_any (2 ^ p) (5 ^ q) v u' W h1 h2 (by omega) (by omega))
    have P4 := Lib.hid (fun v u' W h1 h2 => mul_any a.natAbs (2 ^ p * 5 ^ q) v u' W h1 h2 (by omega) (by omega))
    have P5 := Lib.hid (fun v W h => digits_any (a.natAbs * (2 ^ p * 5 ^ q)) v W h (by omega))
    have P6 := Lib.hid (fun W => point_any (dd (a.natAbs * (2 ^ p * 5 ^ q))) m W (by omega) (by omega))
    have HGO := Lib.hid (fun e w' (h : RetSB w (pt (dd (a.natAbs * (2 ^ p * 5 ^ q))) m) true e w') => show _ from Or.inl (b := Hid (∀ u' f', d ≠ 2 ^ u' * 5 ^ f') ∧ RetSB w [] false e w') (show ∃ n, Hid (d = 2 ^ u * 5 ^ n) ∧ RetSB w (pt (dd (a.natAbs * (2 ^ (max u n - u) * 5 ^ (max u n - n)))) (max u n)) true e w' from ⟨n, HD5.out, by rw [hm, hp, hq]; exact h⟩))
    generalize pt (dd (a.natAbs * (2 ^ p * 5 ^ q))) m = R at *
    generalize dd (a.natAbs * (2 ^ p * 5 ^ q)) = D at *
    generalize a.natAbs * (2 ^ p * 5 ^ q) = N at *
    generalize 2 ^ p * 5 ^ q = F at *
    generalize 2 ^ p = F1 at *
    generalize 5 ^ q = F2 at *
    clear l1 l2 l3 l4 hla hn4 hd5 hd6 hn5 hm hp hq l5
    go_wp2_with fail
    refine (P1.out _).mono ?_
    rintro e w4 ⟨v4, rfl, o4⟩
    replace L := (L.step o4.below).n o4.isN
    clear o4
    go_wp2_with fail
    refine (P2.out _).mono ?_
    rintro e w5 ⟨v5, rfl, o5⟩
    replace L := (L.step o5.below).n o5.isN
    clear o5
    go_wp2_with fail
    refine (P3.out _ _ _ (L.getN (by simp)) (L.getN (by simp))).mono ?_
    rintro e w6 ⟨v6, rfl, o6⟩
    replace L := (L.step o6.below).n o6.isN
    clear o6
    clear c00 f00 c01 f01 c02 f02
    have c00 := L.b0.c30
    have f00 := L.b0.fr 0
    have c01 := L.b0.c31
    have f01 := L.b0.fr 1
    have c02 := L.b0.c32
    have f02 := L.b0.fr 2
    go_wp2_with fail
    refine (P4.out _ _ _ (L.getN (by simp)) (L.getN (by simp))).mono ?_
    rintro e w7 ⟨v7, rfl, o7⟩
    replace L := (L.step o7.below).n o7.isN
    clear o7
    go_wp2_with fail
    refine (P5.out _ _ L.hn).mono ?_
    rintro e w8 ⟨rfl, be⟩
    replace L := L.step be
    clear be
    go_wp2_with fail
    refine (P6.out _).mono ?_
    rintro e w9 ⟨rfl, be⟩
    replace L := L.step be
    clear be
    go_wp2_with fail
    go_ret2
    exact HGO.out _ _ ⟨rfl, L.below⟩

theorem pdec_yes (a : Int) (d u f : Nat) (vx : Value) (w : World) (hx : IsP w vx a d) (la : zl a ≤ 1000) (ld : len d ≤ 60) (h0 : 0 ≤ a) (hT : Tab w) (hd : d = 2 ^ u * 5 ^ f) :
    Calls Tryz.prog 20 #[vx] w (RetSB w (pt (dd (a.natAbs * (10 ^ max u f / (2 ^ u * 5 ^ f)))) (max u f)) true) := by
  have hd0 : 0 < d := by rw [hd]; exact Nat.mul_pos (Nat.pow_pos (by omega)) (Nat.pow_pos (by omega))
  refine (pdec_nn a d vx w hx la ld hd0 h0 hT).mono ?_
  rintro e w' (⟨n, h1, h2⟩ | ⟨h1, _⟩)
  · have ht : tz d = u := by rw [hd, tz_25]
    rw [ht] at h1 h2
    have hn : n = f := five_inj (Nat.eq_of_mul_eq_mul_left (Nat.pow_pos (by omega)) (h1.out.symm.trans hd))
    subst hn
    rw [ten_div]
    exact h2
  · exact absurd hd (h1.out u f)
theorem pdec_no (a : Int) (d : Nat) (vx : Value) (w : World) (hx : IsP w vx a d) (la : zl a ≤ 1000) (ld : len d ≤ 60) (hd0 : 0 < d) (hT : Tab w) (hn : a < 0 ∨ ∀ u f, d ≠ 2 ^ u * 5 ^ f) :
    Calls Tryz.prog 20 #[vx] w (RetSB w [] false) := by
  by_cases h0 : a < 0
  · exact pdec_neg a d vx w hx la h0
  · have hn2 := hn.elim (fun h => absurd h h0) id
    refine (pdec_nn a d vx w hx la ld hd0 (by omega) hT).mono ?_
    rintro e w' (⟨n, h1, _⟩ | ⟨_, h2⟩)
    · exact absurd h1.out (hn2 _ _)
    · exact h2


end Go.Proofs.YtbndgggjfjdfbabGreatDoor
