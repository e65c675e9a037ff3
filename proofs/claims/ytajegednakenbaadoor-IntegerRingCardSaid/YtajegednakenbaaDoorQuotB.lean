/- Walks: quotient.divide. -/
import Derived.Test.YtajegednakenbaaDoorQuotA
namespace Go.Proofs.YtajegednakenbaaDoor
open Go.RowKit
set_option linter.unusedVariables false
set_option linter.unusedSimpArgs false

/-- What divide leaves: the remainder stands where the dividend stood. -/
def RetDiv (w0 w : World) (g N n y : Nat) (a t z : List Nat) (e : Ending) (w' : World) : Prop :=
  ∃ (s : List Nat), e = .returned (.int .u32 ((val t / y : Nat) : Int)) ∧ s.length = n ∧ val s = val t % y ∧ Own w' w0.heap.size (.slice (some ⟨g, 0, none⟩) N N) (a ++ s ++ [0] ++ z) ∧ w.grownBy w' (some g)

theorem drop_one {t : List Nat} {n th : Nat} (ht : t.length = n + 1) (h : nth t n = th) : t.drop n = [th] := by
  rw [List.drop_eq_getElem_cons (by omega), List.drop_eq_nil_of_le (by omega), ← h, nth_eq, List.getElem?_eq_getElem (by omega)]
  rfl

set_option maxHeartbeats 1000000 in
theorem divide_any (w0 w : World) (g off N C n c y : Nat) (B : Option Addr) (a t z : List Nat) (hown : Own w w0.heap.size (.slice (some ⟨g, 0, none⟩) N N) (a ++ t ++ z)) (ha : a.length = off) (ht : t.length = n + 1 + 1) (hC : off + C = N) (hM : n + 1 + 1 ≤ C)
    (hb : Sl w0 B (n + 1) c (dig y)) (hbel : Below w0.heap.size w0 w) (hN : N ≤ 4398046511104) (hlt : val t < 4294967296 * y) (hst : Small t) :
    Calls Tryd.prog 78 #[.slice (some ⟨g, off, none⟩) (n + 1 + 1) C, .slice B (n + 1) c] w (RetDiv w0 w g N (n + 1) y a t z) := by
  have hy : len y = n + 1 := hb.len
  have hg := hown.row.2
  have hyp : 0 < y := by
    rcases Nat.eq_zero_or_pos y with h | h
    · subst h; omega
    · exact h
  obtain ⟨v1, hz1, HV1, hv1⟩ := hown.cell (j := off + (n + 1)) (by omega)
  obtain ⟨v0, hz0, HV0, hv0⟩ := hown.cell (j := off + n) (by omega)
  obtain ⟨b, offb, dv, rfl, _, hxc, HD, hdv⟩ := hb.get hbel (k := n) (by omega)
  have e1 : nth t (n + 1) = v1 := by
    rw [← HV1.out]
    have := nth_row (a := a) (s := t.take (n + 1)) (t := t) (z := z) (off := off) (i := n + 1) ha (by rw [List.length_take]; omega) (by omega)
    rw [List.append_assoc a, List.take_append_drop] at this
    exact this.symm
  have e0 : nth t n = v0 := by
    rw [← HV0.out]
    have := nth_row (a := a) (s := t.take n) (t := t) (z := z) (off := off) (i := n) ha (by rw [List.length_take]; omega) (by omega)
    rw [List.append_assoc a, List.take_append_drop] at this
    exact this.symm
  obtain ⟨hd0, hgs, hgt⟩ := guess ht hst rfl e1 e0 hy HD.out hlt
  obtain ⟨q, hq⟩ : ∃ q, q = (v0 + 4294967296 * v1) / dv := ⟨_, rfl⟩
  rw [← hq] at hgs
  have EO := or_digit v1 v0 hv1 hv0
  have EQ : ((v0 : Int) + 4294967296 * v1) / dv = (q : Int) := by
    rw [hq, Int.natCast_ediv]
    rfl
  have hq2 : q < 18446744073709551616 := by
    rw [hq]
    exact Nat.lt_of_le_of_lt (Nat.div_le_self _ _) (by omega)
  obtain ⟨dg, hdg⟩ : ∃ dg : Nat, dg = if 4294967295 < q then 4294967295 else q := ⟨_, rfl⟩
  have EM : (if (4294967295 : Int) < (q : Int) then (4294967295 : Int) else (q : Int)) = (dg : Int) := by
    rw [hdg]
    split <;> split <;> omega
  have hdg2 : dg < 4294967296 := by
    rw [hdg]
    split <;> omega
  have hgs : val t / y ≤ dg := by
    rw [hdg]
    split
    · exact hgt
    · exact hgs
  have hdz : ((dv : Int) == 0) = false := by rw [beq_eq_false_iff_ne]; omega
  have HQ := Lib.hid hgs
  have HY := Lib.hid hy
  have HT := Lib.hid ht
  have HE1 := Lib.hid e1
  have HG := Lib.hid hg
  have HYP := Lib.hid hyp
  have HA := Lib.hid ha
  have HOWN := Lib.hid hown
  have HSM := Lib.hid hst
  have hNn : n + 1 + 1 ≤ N := by omega
  clear hdg hgs hgt hy ht e1 e0 hg hyp ha HV1 HV0 hown hlt hst hq HD
  go_enter Tryd.func78, Tryd.ntmps78
  go_wp2_with fail
  go_quiet (fail)
  go_wp2_with fail
  have HSB := subMul_any w0 (w.drewN nq) g off N (n + 1 + 1) C (n + 1 + 1) (n + 1) c dg _ a t z (dig y) (HOWN.out.below (belowN (Below.refl _ _) nq)) HA.out HT.out hC hM (by omega) (by omega) hb (belowN hbel nq) hdg2 hN
  refine HSB.mono ?_
  clear HSB
  rintro e w1 ⟨bw, s, rfl, hbw, hs, hown1, hgr1⟩
  rw [drop_one HT.out HE1.out] at hown1
  have HS1 := divSt_start HT.out rfl HE1.out HY.out hs HQ.out
  have hgr2 := grown_trans (grown_drewN w nq (some g)) hgr1
  have HO1 := Lib.hid hown1
  clear hs hown1 hgr1 HOWN EO EQ EM hz1 hz0 hxc
  go_wp2_with fail
  go_loopw [7, 8] (fun d b' wr => ∃ (dg bw : Nat) (s : List Nat), d = .int .u32 (dg : Int) ∧ b' = .int .u32 (bw : Int) ∧ dg < 4294967296 ∧ bw < 4294967296 ∧ DivSt y (n + 1) (val t) v1 dg bw s ∧ Own wr w0.heap.size (.slice (some ⟨g, 0, none⟩) N N) (a ++ s ++ [v1] ++ z) ∧ w.grownBy wr (some g)) (fun d _ _ => (intOf d).toNat)
  case atStart => exact ⟨dg, bw, s, rfl, rfl, hdg2, hbw, HS1, HO1.out, hgr2⟩
  case round =>
    clear HO1 HS1 hgr2 hbw hdg2 HQ hdz hd0 hq2
    obtain ⟨dg, bw, s, rfl, rfl, hdg, hbw, HS, hown, hgr⟩ := hrel
    have hbe := grown_below hbel hgr HG.out
    have hsl : (a ++ s).length = off + (n + 1) := by rw [List.length_append, HA.out, HS.1]
    have hfree := hown.free (off + (n + 1))
    obtain ⟨v, hz, HV, _⟩ := hown.cell (j := off + (n + 1)) (by omega)
    have hv : v = v1 := by rw [← HV.out, nth_mid _ _ _ hsl]
    subst hv
    rcases Nat.lt_or_ge v bw with hlt | hle
    · have hdp := Nat.lt_of_le_of_lt (Nat.zero_le _) (divSt_pos HS hlt HYP.out)
      have HAB := Lib.hid (addBack_any w0 wr g off N (n + 1 + 1) C (n + 1) (n + 1) c _ a s ([v] ++ z) (dig y) (by rw [← List.append_assoc]; exact hown) HA.out HS.1 hC hM (by omega) (by omega) hb hbe hN)
      have hll : (v : Int) < bw := by omega
      clear hown hsl HV
      go_wp2_with fail
      refine HAB.out.mono ?_
      rintro e w3 ⟨c1, s', rfl, hc1, hs', hown3, hgr3⟩
      rw [drop_all HS.1, List.append_nil, ← List.append_assoc] at hown3
      have HS3 := Lib.hid (divSt_step HS hlt HYP.out HY.out hs' hc1)
      have hgr4 := grown_trans hgr hgr3
      have HO3 := Lib.hid hown3
      clear hs' hown3
      go_wp2_with fail
      go_roundw
      case rel => exact ⟨dg - 1, bw - c1, s', by go_num, by go_num, by omega, by omega, HS3.out, HO3.out, hgr4⟩
      case measure => simp [intOf]; omega
    · obtain ⟨h1, h2, h3⟩ := divSt_end HS hle HY.out HYP.out
      have hst := hown.store (j := off + (n + 1)) (x := 0) (by unfold W32; omega)
      rw [set_mid _ _ _ _ hsl] at hst
      have hg2 := grown_set hgr (off + (n + 1)) (.int .u32 ((0 : Nat) : Int))
      subst h2
      have hll : ¬ (v : Int) < v := by omega
      have HST := Lib.hid hst
      have H1 := Lib.hid h1
      have H3 := Lib.hid h3
      have HSL := Lib.hid HS.1
      clear hst hown HV h1 h3 HS hle
      go_wp2_with fail
      go_ret
      exact ⟨s, by rw [← H1.out]; rfl, HSL.out, H3.out, HST.out, hg2⟩

end Go.Proofs.YtajegednakenbaaDoor
