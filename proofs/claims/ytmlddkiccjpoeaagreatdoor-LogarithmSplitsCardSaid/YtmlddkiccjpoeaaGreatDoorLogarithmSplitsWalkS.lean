/- The walk of LogarithmSplits: whatever the input, the law returns true and turns nothing that was there. -/
import Derived.Test.YtmlddkiccjpoeaaGreatDoorJS2
import Derived.Test.YtmlddkiccjpoeaaGreatDoorBaseES
import Derived.Test.YtmlddkiccjpoeaaGreatDoorBaseWS
import Derived.Deep.RegionHeld3
import Derived.Deep.DrawnRows
import Derived.Deep.Cut
import Derived.Deep.CutRange
namespace Go.Proofs.YtmlddkiccjpoeaaGreatDoor
open Go.RowKit
set_option linter.unusedVariables false
set_option linter.unusedSimpArgs false
set_option maxRecDepth 100000
attribute [local go_sem ↓] Go.wp_at_zero Go.wp_at_succ

/-- A dyadic in its normal form is its own normal form. -/
theorem dv_mk8 {m x : Int} (h : Dv m x) : mkR m x = 0 ∧ mkM m x = m ∧ mkE m x = x := by
  have hb : mkR m x = 0 := by
    rcases h with ⟨h1, h2⟩ | ⟨h1, h2⟩
    · subst h1 h2
      unfold mkR; rw [if_neg (by omega), if_pos rfl]
    · have h3 := h2
      unfold fits8 at h3
      rw [Bool.and_eq_true, Bool.and_eq_true, Bool.and_eq_true] at h3
      have e1 := of_decide_eq_true h3.2.1
      have e2 := of_decide_eq_true h3.2.2.1
      have hodd := h3.2.2.2
      have ht : tz m.natAbs = 0 := by
        obtain ⟨k, hk⟩ := tz_form (x := m.natAbs) (by omega)
        unfold bitB at hodd
        rw [Nat.pow_zero, Nat.div_one] at hodd
        have h9 := of_decide_eq_true hodd
        refine Nat.eq_zero_of_not_pos fun hp => ?_
        obtain ⟨j, hj⟩ : ∃ j, tz m.natAbs = j + 1 := ⟨tz m.natAbs - 1, by omega⟩
        rw [hj, Nat.pow_succ, Nat.mul_assoc, Nat.mul_comm, Nat.mul_assoc] at hk
        omega
      have ho : oddM m = m := by
        have h4 := odd_form m
        rw [ht] at h4
        simpa using h4
      have hE : oddE m x = x := by unfold oddE; rw [ht]; simp
      unfold mkR
      rw [if_neg (by omega), if_neg h1, ho, hE, h2]
      rfl
  exact ⟨hb, dv_uniq (mk_ok hb) h (dq_mk hb)⟩

set_option maxHeartbeats 64000000 in
theorem walk_LogarithmSplits (b0 : Bool) (a0 : Option Addr) (len0 cap0 : Nat) (z0 : List Nat) (f0 : Int) (w : World) (h0 : Sl w a0 len0 cap0 z0) (u0 : -9223372036854775808 ≤ f0) (t0 : f0 ≤ 9223372036854775807) (hT : Tab w) :
    Calls Tryz.prog 8 #[.agg #[.bool b0, .slice a0 len0 cap0, .int .i64 f0]] w (fun e w' => e = .returned (.bool true) ∧ Below w.heap.size w w') := by
  have HT := Lib.hid (fun W (hW : Below w.heap.size w W) => hT.mono hW)
  clear hT
  go_enter Tryz.func8, Tryz.ntmps8
  go_wp2_with fail
  have L := ((Lq.mk0 w).varD (w.heap.size) (by simp) b0 a0 len0 cap0 f0)
  (try go_wp2_with fail)
  refine (awake15_any _ (HT.out _ L.below)).mono ?_
  rintro e9 w1 ⟨rfl, be⟩
  replace L := L.step be
  clear be
  have c00 := L.b0.c30
  have c01 := L.b0.c31
  have c02 := L.b0.c32
  (try go_wp2_with fail)
  refine (millD_any b0 z0 8 60000 a0 len0 cap0 f0 _ (h0.mono L.below) (by omega) (by omega) u0 t0).mono ?_
  rintro e9 w2 ⟨vx, ok, x, f, rfl, id, zx, hf1, hf2, hdv, be⟩
  clear c00 c01 c02
  obtain ⟨A, c, rfl, _, in9⟩ := id.form
  replace L := (L.step be).n in9
  clear be id in9
  have hl9 := L.b0.lt
  replace L := L.varD w2.heap.size rfl (ng x) A (zl x) c f
  cases ok
  · go_wp2_with fail
    go_ret
    exact ⟨rfl, L.below⟩
  have dv := hdv rfl
  clear hdv
  rcases Int.lt_or_le 0 x with hx | hx
  · obtain ⟨sr1, sr2, sr3, sr4⟩ := sp_rng (m := x) (e := f) zx
    have g1 := fun v W h (hW : Below w.heap.size w W) => lsplit_any x f v W h hx dv (by omega) (by omega) (HT.out W hW)
    have g2 := fun v W h => s15split_any x f v W h hx dv (by omega) (by omega)
    have g3 := fun v u W h k => same8_any x (spE x) x (spE x) v u W h k
    rw [show (decide (spE x = spE x) && decide (x = x)) = true by simp] at g3
    obtain ⟨m1, m2, m3⟩ := dv_mk8 dv
    have g4 := fun v W h => rshift8_any x (spE x) (spK x f) v W h (by omega) (by omega) (by omega)
    rw [show spE x + spK x f = f by have := sp_sum x f; omega, m1, m2, m3] at g4
    have g5 := fun v u W h k => same8_any x f x f v u W h k
    rw [show (decide (f = f) && decide (x = x)) = true by simp] at g5
    obtain ⟨K, hK⟩ : ∃ z, spK x f = z := ⟨_, rfl⟩
    obtain ⟨E, hE⟩ : ∃ z, spE x = z := ⟨_, rfl⟩
    rw [hK, hE] at g1 g2 g4
    rw [hE] at g3
    clear sr1 sr2 sr3 sr4 m1 m2 m3 hK hE zx hf1 hf2 dv hx
    have G1 := Lib.hid g1
    have G2 := Lib.hid g2
    have G3 := Lib.hid g3
    have G4 := Lib.hid g4
    have G5 := Lib.hid g5
    clear g1 g2 g3 g4 g5
    have c00 := L.b0.c30
    have c01 := L.b0.c31
    have c02 := L.b0.c32
    go_wp2_with fail
    clear c00 c01 c02
    obtain ⟨gx, hgx⟩ : ∃ g9, w2.heap.size = g9 := ⟨_, rfl⟩
    rw [hgx] at L hl9 ⊢
    clear hgx
    have hl_gx := hl9
    clear hl9
    refine (G1.out _ _ (isD_n (m := x) (e := f) (s := .slice A (zl x) c) (L.getN (by simp))) L.below).mono ?_
    rintro e w3 ⟨v9, rfl, iz, be⟩
    obtain ⟨A1, c1, rfl, _, in9⟩ := iz.form
    replace L := (L.step be).n in9
    clear be iz in9
    have hl9 := L.b0.lt
    replace L := L.varD w3.heap.size rfl (ng x) A1 (zl x) c1 E
    have c00 := L.b0.c30
    have c01 := L.b0.c31
    have c02 := L.b0.c32
    have c10 := L.tl.b0.c30
    have c11 := L.tl.b0.c31
    have c12 := L.tl.b0.c32
    go_wp2_with fail
    clear c00 c01 c02 c10 c11 c12
    obtain ⟨g1, hg1⟩ : ∃ g9, w3.heap.size = g9 := ⟨_, rfl⟩
    rw [hg1] at L hl9 ⊢
    clear hg1
    have hl_g1 := hl9
    clear hl9
    refine (G2.out _ _ (isD_n (m := x) (e := f) (s := .slice A (zl x) c) (L.getN (by simp)))).mono ?_
    rintro e w4 ⟨v9, rfl, iz, be⟩
    obtain ⟨A2, c2, rfl, _, in9⟩ := iz.form
    replace L := (L.step be).n in9
    clear be iz in9
    have hl9 := L.b0.lt
    replace L := L.varD w4.heap.size rfl (ng x) A2 (zl x) c2 E
    have c00 := L.b0.c30
    have c01 := L.b0.c31
    have c02 := L.b0.c32
    have c10 := L.tl.b0.c30
    have c11 := L.tl.b0.c31
    have c12 := L.tl.b0.c32
    go_wp2_with fail
    clear c00 c01 c02 c10 c11 c12
    obtain ⟨g2, hg2⟩ : ∃ g9, w4.heap.size = g9 := ⟨_, rfl⟩
    rw [hg2] at L hl9 ⊢
    clear hg2
    have hl_g2 := hl9
    clear hl9
    refine (G3.out _ _ _ (isD_n (m := x) (e := E) (s := .slice A1 (zl x) c1) (L.getN (by simp))) (isD_n (m := x) (e := E) (s := .slice A2 (zl x) c2) (L.getN (by simp)))).mono ?_
    rintro e w5 ⟨rfl, be⟩
    replace L := L.step be
    clear be
    have c10 := L.tl.b0.c30
    have c11 := L.tl.b0.c31
    have c12 := L.tl.b0.c32
    (try go_wp2_with fail)
    refine (G4.out _ _ (isD_n (m := x) (e := E) (s := .slice A1 (zl x) c1) (L.getN (by simp)))).mono ?_
    rintro e w6 ⟨v9, rfl, iz, be⟩
    clear c10 c11 c12
    obtain ⟨A3, c3, rfl, _, in9⟩ := iz.form
    replace L := (L.step be).n in9
    clear be iz in9
    have hl9 := L.b0.lt
    replace L := L.varD w6.heap.size rfl (ng x) A3 (zl x) c3 f
    have c00 := L.b0.c30
    have c01 := L.b0.c31
    have c02 := L.b0.c32
    have c30 := L.tl.tl.tl.b0.c30
    have c31 := L.tl.tl.tl.b0.c31
    have c32 := L.tl.tl.tl.b0.c32
    go_wp2_with fail
    clear c00 c01 c02 c30 c31 c32
    obtain ⟨g3, hg3⟩ : ∃ g9, w6.heap.size = g9 := ⟨_, rfl⟩
    rw [hg3] at L hl9 ⊢
    clear hg3
    have hl_g3 := hl9
    clear hl9
    refine (G5.out _ _ _ (isD_n (m := x) (e := f) (s := .slice A3 (zl x) c3) (L.getN (by simp))) (isD_n (m := x) (e := f) (s := .slice A (zl x) c) (L.getN (by simp)))).mono ?_
    rintro e w7 ⟨rfl, be⟩
    replace L := L.step be
    clear be
    (try go_wp2_with fail)
    go_ret
    exact ⟨rfl, L.below⟩
  · have g1 := fun v W h => lsplit_no x f v W h hx dv (by omega)
    have g2 := fun v W h => s15split_no x f v W h hx (by omega)
    have g3 := fun v u W h k => same8_any 0 0 0 0 v u W h k
    rw [show (decide ((0 : Int) = 0) && decide ((0 : Int) = 0)) = true from by decide] at g3
    have g4 := fun v W h => rsign8_any x f v W h (by omega)
    obtain ⟨s, hs⟩ : ∃ s, cmpI x 0 = s := ⟨_, rfl⟩
    have hs0 : s ≤ 0 := by rw [← hs]; unfold cmpI; (repeat' split) <;> omega
    rw [hs] at g4
    have d1 : decide (s ≤ 0) = true := decide_eq_true hs0
    clear hs hs0 zx hf1 hf2 dv hx
    have G1 := Lib.hid g1
    have G2 := Lib.hid g2
    have G3 := Lib.hid g3
    have G4 := Lib.hid g4
    clear g1 g2 g3 g4
    have c00 := L.b0.c30
    have c01 := L.b0.c31
    have c02 := L.b0.c32
    go_wp2_with fail
    clear c00 c01 c02
    obtain ⟨gx, hgx⟩ : ∃ g9, w2.heap.size = g9 := ⟨_, rfl⟩
    rw [hgx] at L hl9 ⊢
    clear hgx
    have hl_gx := hl9
    clear hl9
    refine (G1.out _ _ (isD_n (m := x) (e := f) (s := .slice A (zl x) c) (L.getN (by simp)))).mono ?_
    rintro e w3 ⟨v9, rfl, iz, be⟩
    obtain ⟨A1, c1, rfl, _, in9⟩ := iz.form
    replace L := (L.step be).n in9
    clear be iz in9
    have hl9 := L.b0.lt
    replace L := L.varD w3.heap.size rfl (ng 0) A1 (zl 0) c1 0
    have c00 := L.b0.c30
    have c01 := L.b0.c31
    have c02 := L.b0.c32
    have c10 := L.tl.b0.c30
    have c11 := L.tl.b0.c31
    have c12 := L.tl.b0.c32
    go_wp2_with fail
    clear c00 c01 c02 c10 c11 c12
    obtain ⟨g1, hg1⟩ : ∃ g9, w3.heap.size = g9 := ⟨_, rfl⟩
    rw [hg1] at L hl9 ⊢
    clear hg1
    have hl_g1 := hl9
    clear hl9
    refine (G2.out _ _ (isD_n (m := x) (e := f) (s := .slice A (zl x) c) (L.getN (by simp)))).mono ?_
    rintro e w4 ⟨v9, rfl, iz, be⟩
    obtain ⟨A2, c2, rfl, _, in9⟩ := iz.form
    replace L := (L.step be).n in9
    clear be iz in9
    have hl9 := L.b0.lt
    replace L := L.varD w4.heap.size rfl (ng 0) A2 (zl 0) c2 0
    have c00 := L.b0.c30
    have c01 := L.b0.c31
    have c02 := L.b0.c32
    have c10 := L.tl.b0.c30
    have c11 := L.tl.b0.c31
    have c12 := L.tl.b0.c32
    go_wp2_with fail
    clear c00 c01 c02 c10 c11 c12
    obtain ⟨g2, hg2⟩ : ∃ g9, w4.heap.size = g9 := ⟨_, rfl⟩
    rw [hg2] at L hl9 ⊢
    clear hg2
    have hl_g2 := hl9
    clear hl9
    refine (G3.out _ _ _ (isD_n (m := 0) (e := 0) (s := .slice A1 (zl 0) c1) (L.getN (by simp))) (isD_n (m := 0) (e := 0) (s := .slice A2 (zl 0) c2) (L.getN (by simp)))).mono ?_
    rintro e w5 ⟨rfl, be⟩
    replace L := L.step be
    clear be
    have c20 := L.tl.tl.b0.c30
    have c21 := L.tl.tl.b0.c31
    have c22 := L.tl.tl.b0.c32
    (try go_wp2_with fail)
    refine (G4.out _ _ (isD_n (m := x) (e := f) (s := .slice A (zl x) c) (L.getN (by simp)))).mono ?_
    rintro e w6 ⟨rfl, be⟩
    clear c20 c21 c22
    replace L := L.step be
    clear be
    (try go_wp2_with fail)
    go_ret
    exact ⟨rfl, L.below⟩

end Go.Proofs.YtmlddkiccjpoeaaGreatDoor
