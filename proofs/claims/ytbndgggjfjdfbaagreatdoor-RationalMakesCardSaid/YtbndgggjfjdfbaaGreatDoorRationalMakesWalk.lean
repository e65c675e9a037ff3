/- The walk of RationalMakes: whatever the input, the law returns true and turns nothing that was there. -/
import Derived.Test.YtbndgggjfjdfbaaGreatDoorAwake7
import Derived.Test.YtbndgggjfjdfbaaGreatDoorRefRatV
import Derived.Test.YtbndgggjfjdfbaaGreatDoorRatQ
import Derived.Test.YtbndgggjfjdfbaaGreatDoorBaseJ
import Derived.Deep.RegionHeld3
import Derived.Deep.DrawnRows
namespace Go.Proofs.YtbndgggjfjdfbaaGreatDoor
open Go.RowKit
set_option linter.unusedVariables false
set_option linter.unusedSimpArgs false
set_option maxRecDepth 100000
attribute [local go_sem ↓] Go.wp_at_zero Go.wp_at_succ

theorem qval_q {a : Int} {d : Nat} (hd : 0 < d) (h : Nat.gcd a.natAbs d = 1) : qval (ng a) (dig a.natAbs) (dig d) = true := by
  unfold qval
  rw [sval_z, isTrim_dig, length_dig, decide_eq_true (len_pos hd), val_dig, val_dig, h]
  rfl
theorem pvalid_q (a : Int) (d : Nat) (hd : 0 < d) (h : Nat.gcd a.natAbs d = 1) (la : zl a ≤ 100000) (ld : len d ≤ 100000) (v : Value) (W : World) (hv : IsP W v a d) :
    Calls Tryz.prog 13 #[v] W (RetB W true) := by
  obtain ⟨s, t, rfl, hs, ht⟩ := hv
  obtain ⟨A, n, c, rfl, s1⟩ := hs
  obtain ⟨B, n2, c2, rfl, s2⟩ := ht
  have e1 := s1.len
  have e2 := s2.len
  rw [length_dig] at e1 e2
  have la' : len a.natAbs ≤ 100000 := la
  have := pvalid_any (ng a) (dig a.natAbs) (dig d) A B n c n2 c2 W s1 s2 (by omega) (by omega)
  rwa [qval_q hd h] at this

set_option maxHeartbeats 8000000 in
theorem walk_RationalMakes (b0 : Bool) (a0 : Option Addr) (len0 cap0 : Nat) (z0 : List Nat) (x0 : Option Addr) (nen0 nap0 : Nat) (y0 : List Nat) (b1 : Bool) (a1 : Option Addr) (len1 cap1 : Nat) (z1 : List Nat) (b2 : Bool) (a2 : Option Addr) (len2 cap2 : Nat) (z2 : List Nat) (w : World) (h0 : Sl w a0 len0 cap0 z0 ∧ Sl w x0 nen0 nap0 y0) (h1 : Sl w a1 len1 cap1 z1) (h2 : Sl w a2 len2 cap2 z2) (hT : Tab w) :
    Calls Tryz.prog 3 #[.agg #[.bool b0, .slice a0 len0 cap0, .slice x0 nen0 nap0], .agg #[.bool b1, .slice a1 len1 cap1], .agg #[.bool b2, .slice a2 len2 cap2]] w (fun e w' => e = .returned (.bool true) ∧ Below w.heap.size w w') := by
  go_enter Tryz.func3, Tryz.ntmps3
  go_wp2_with fail
  have L := ((((Lq.mk0 w).varQ (w.heap.size) (by simp) b0 a0 x0 len0 cap0 nen0 nap0).varZ (w.heap.size + 1) (by simp) b1 a1 len1 cap1).varZ (w.heap.size + 2) (by simp) b2 a2 len2 cap2)
  refine (awake7_any _ (hT.mono L.below)).mono ?_
  rintro e w1 ⟨rfl, be⟩
  replace L := L.step be
  clear be
  have c00 := L.b0.c20
  have c01 := L.b0.c21
  have c10 := L.tl.b0.c20
  have c11 := L.tl.b0.c21
  have c20 := L.tl.tl.b0.c30
  have c21 := L.tl.tl.b0.c31
  have c22 := L.tl.tl.b0.c32
  go_wp2_with fail
  refine (millZ_any b1 z1 12 a1 len1 cap1 _ (h1.mono L.below) (by omega)).mono ?_
  rintro e w2 ⟨v1, ok1, x, rfl, iz, lx, be⟩
  clear c00 c01 c10 c11 c20 c21 c22
  replace L := (L.step be).z iz
  obtain ⟨A1, c1, rfl, _⟩ := iz.form
  clear be iz
  have hl1 := L.b0.lt
  replace L := L.varZ w2.heap.size rfl (ng x) A1 (zl x) c1
  have c00 := L.b0.c20
  have c01 := L.b0.c21
  have c10 := L.tl.b0.c20
  have c11 := L.tl.b0.c21
  have c20 := L.tl.tl.b0.c20
  have c21 := L.tl.tl.b0.c21
  have c30 := L.tl.tl.tl.b0.c30
  have c31 := L.tl.tl.tl.b0.c31
  have c32 := L.tl.tl.tl.b0.c32
  go_wp2_with fail
  clear c00 c01 c10 c11 c20 c21 c30 c31 c32
  obtain ⟨g1, hg⟩ : ∃ g, w2.heap.size = g := ⟨_, rfl⟩
  rw [hg] at L hl1 ⊢
  clear hg
  have c00 := L.b0.c20
  have c01 := L.b0.c21
  have c10 := L.tl.b0.c20
  have c11 := L.tl.b0.c21
  have c20 := L.tl.tl.b0.c20
  have c21 := L.tl.tl.b0.c21
  have c30 := L.tl.tl.tl.b0.c30
  have c31 := L.tl.tl.tl.b0.c31
  have c32 := L.tl.tl.tl.b0.c32
  refine (millZ_any b2 z2 12 a2 len2 cap2 _ (h2.mono L.below) (by omega)).mono ?_
  rintro e w3 ⟨v2, ok2, y, rfl, iz, ly, be⟩
  clear c00 c01 c10 c11 c20 c21 c30 c31 c32
  replace L := (L.step be).z iz
  obtain ⟨A2, c2, rfl, _⟩ := iz.form
  clear be iz
  have hl2 := L.b0.lt
  replace L := L.varZ w3.heap.size rfl (ng y) A2 (zl y) c2
  have c00 := L.b0.c20
  have c01 := L.b0.c21
  have c10 := L.tl.b0.c20
  have c11 := L.tl.b0.c21
  have c20 := L.tl.tl.b0.c20
  have c21 := L.tl.tl.b0.c21
  have c30 := L.tl.tl.tl.b0.c20
  have c31 := L.tl.tl.tl.b0.c21
  have c40 := L.tl.tl.tl.tl.b0.c30
  have c41 := L.tl.tl.tl.tl.b0.c31
  have c42 := L.tl.tl.tl.tl.b0.c32
  cases ok1
  · go_wp2_with fail
    go_ret
    exact ⟨rfl, L.below⟩
  · cases ok2
    · go_wp2_with fail
      go_ret
      exact ⟨rfl, L.below⟩
    · by_cases q0 : 12 < len0
      · have q0b : decide ((12 : Int) < (len0 : Int)) = true := decide_eq_true (by omega)
        go_wp2_with fail
        go_ret
        exact ⟨rfl, L.below⟩
      · have q0b : decide ((12 : Int) < (len0 : Int)) = false := decide_eq_false (by omega)
        by_cases q1 : 12 < nen0
        · have q1b : decide ((12 : Int) < (nen0 : Int)) = true := decide_eq_true (by omega)
          go_wp2_with fail
          go_ret
          exact ⟨rfl, L.below⟩
        · have q1b : decide ((12 : Int) < (nen0 : Int)) = false := decide_eq_false (by omega)
          go_wp2_with fail
          clear c00 c01 c10 c11 c20 c21 c30 c31 c40 c41 c42
          obtain ⟨g2, hg⟩ : ∃ g, w3.heap.size = g := ⟨_, rfl⟩
          rw [hg] at L hl2 ⊢
          clear hg
          have HV1 := Lib.hid (fun W (hW : Below w.heap.size w W) => pvalid_any b0 z0 y0 a0 x0 len0 cap0 nen0 nap0 W (h0.1.mono hW) (h0.2.mono hW) (by omega) (by omega))
          have HV2 := Lib.hid (fun W (hW : Below w.heap.size w W) => rvalid7_any b0 z0 y0 a0 x0 len0 cap0 nen0 nap0 W (h0.1.mono hW) (h0.2.mono hW) (by omega) (by omega))
          generalize qval b0 z0 y0 = qv at *
          have hqq : (qv == qv) = true := by cases qv <;> rfl
          have M0 := Lib.hid (fun v u W (k1 : IsZ W v x) (k2 : IsZ W u 0) => pmake_zero x v u W k1 k2)
          have M1 := Lib.hid (fun v u W (k1 : IsZ W v x) (k2 : IsZ W u 0) => rmake_zero x v u W k1 k2)
          have M2 := Lib.hid (fun (hy : y ≠ 0) v u W k1 k2 => pmake_any x y v u W k1 k2 (by omega) (by omega) hy)
          have M3 := Lib.hid (fun (hy : y ≠ 0) v u W k1 k2 => rmake_any x y v u W k1 k2 (by omega) (by omega) hy)
          have HSZ := Lib.hid (fun hy : y ≠ 0 => (show (zl (Rat.divInt x y).num ≤ 100000 ∧ len (Rat.divInt x y).den ≤ 100000) ∧ 0 < (Rat.divInt x y).den ∧ Nat.gcd (Rat.divInt x y).num.natAbs (Rat.divInt x y).den = 1 from by
            refine ⟨?_, den_pos' _, (Rat.divInt x y).reduced⟩
            obtain ⟨e3, e4⟩ := divInt_pair x y hy
            rw [e3, e4, zl_sg]
            exact ⟨Nat.le_trans (len_mono (Nat.div_le_self _ _)) (Nat.le_trans lx (by omega)), Nat.le_trans (len_mono (Nat.div_le_self _ _)) (Nat.le_trans ly (by omega))⟩))
          clear lx ly q0 q1 hT h0 h1 h2
          by_cases hy : y = 0
          · subst hy
            clear M2 M3 HSZ
            have c00 := L.b0.c20
            have c01 := L.b0.c21
            have c10 := L.tl.b0.c20
            have c11 := L.tl.b0.c21
            have c20 := L.tl.tl.b0.c20
            have c21 := L.tl.tl.b0.c21
            have c30 := L.tl.tl.tl.b0.c20
            have c31 := L.tl.tl.tl.b0.c21
            have c40 := L.tl.tl.tl.tl.b0.c30
            have c41 := L.tl.tl.tl.tl.b0.c31
            have c42 := L.tl.tl.tl.tl.b0.c32
            refine (M0.out _ _ _ (L.getZ (by simp)) (L.getZ (by simp))).mono ?_
            rintro e w4 ⟨v, rfl, iq, be⟩
            clear c00 c01 c10 c11 c20 c21 c30 c31 c40 c41 c42
            replace L := (L.step be).q iq
            obtain ⟨A3, c3, B3, d3, rfl, _, _, _⟩ := iq.form
            clear be iq
            have hl3 := L.b0.lt
            replace L := L.varQ w4.heap.size rfl (ng 0) A3 B3 (zl 0) c3 (len 0) d3
            have c00 := L.b0.c30
            have c01 := L.b0.c31
            have c02 := L.b0.c32
            have c10 := L.tl.b0.c20
            have c11 := L.tl.b0.c21
            have c20 := L.tl.tl.b0.c20
            have c21 := L.tl.tl.b0.c21
            have c30 := L.tl.tl.tl.b0.c20
            have c31 := L.tl.tl.tl.b0.c21
            have c40 := L.tl.tl.tl.tl.b0.c20
            have c41 := L.tl.tl.tl.tl.b0.c21
            have c50 := L.tl.tl.tl.tl.tl.b0.c30
            have c51 := L.tl.tl.tl.tl.tl.b0.c31
            have c52 := L.tl.tl.tl.tl.tl.b0.c32
            go_wp2_with fail
            clear c00 c01 c02 c10 c11 c20 c21 c30 c31 c40 c41 c50 c51 c52
            obtain ⟨g3, hg⟩ : ∃ g, w4.heap.size = g := ⟨_, rfl⟩
            rw [hg] at L hl3 ⊢
            clear hg
            have c00 := L.b0.c30
            have c01 := L.b0.c31
            have c02 := L.b0.c32
            have c10 := L.tl.b0.c20
            have c11 := L.tl.b0.c21
            have c20 := L.tl.tl.b0.c20
            have c21 := L.tl.tl.b0.c21
            have c30 := L.tl.tl.tl.b0.c20
            have c31 := L.tl.tl.tl.b0.c21
            have c40 := L.tl.tl.tl.tl.b0.c20
            have c41 := L.tl.tl.tl.tl.b0.c21
            have c50 := L.tl.tl.tl.tl.tl.b0.c30
            have c51 := L.tl.tl.tl.tl.tl.b0.c31
            have c52 := L.tl.tl.tl.tl.tl.b0.c32
            refine (M1.out _ _ _ (L.getZ (by simp)) (L.getZ (by simp))).mono ?_
            rintro e w5 ⟨v, rfl, iq, be⟩
            clear c00 c01 c02 c10 c11 c20 c21 c30 c31 c40 c41 c50 c51 c52
            replace L := (L.step be).q iq
            obtain ⟨A4, c4, B4, d4, rfl, _, _, _⟩ := iq.form
            clear be iq
            have hl4 := L.b0.lt
            replace L := L.varQ w5.heap.size rfl (ng 0) A4 B4 (zl 0) c4 (len 0) d4
            have c00 := L.b0.c30
            have c01 := L.b0.c31
            have c02 := L.b0.c32
            have c10 := L.tl.b0.c30
            have c11 := L.tl.b0.c31
            have c12 := L.tl.b0.c32
            have c20 := L.tl.tl.b0.c20
            have c21 := L.tl.tl.b0.c21
            have c30 := L.tl.tl.tl.b0.c20
            have c31 := L.tl.tl.tl.b0.c21
            have c40 := L.tl.tl.tl.tl.b0.c20
            have c41 := L.tl.tl.tl.tl.b0.c21
            have c50 := L.tl.tl.tl.tl.tl.b0.c20
            have c51 := L.tl.tl.tl.tl.tl.b0.c21
            have c60 := L.tl.tl.tl.tl.tl.tl.b0.c30
            have c61 := L.tl.tl.tl.tl.tl.tl.b0.c31
            have c62 := L.tl.tl.tl.tl.tl.tl.b0.c32
            go_wp2_with fail
            clear c00 c01 c02 c10 c11 c12 c20 c21 c30 c31 c40 c41 c50 c51 c60 c61 c62
            obtain ⟨g4, hg⟩ : ∃ g, w5.heap.size = g := ⟨_, rfl⟩
            rw [hg] at L hl4 ⊢
            clear hg
            have c00 := L.b0.c30
            have c01 := L.b0.c31
            have c02 := L.b0.c32
            have c10 := L.tl.b0.c30
            have c11 := L.tl.b0.c31
            have c12 := L.tl.b0.c32
            have c20 := L.tl.tl.b0.c20
            have c21 := L.tl.tl.b0.c21
            have c30 := L.tl.tl.tl.b0.c20
            have c31 := L.tl.tl.tl.b0.c21
            have c40 := L.tl.tl.tl.tl.b0.c20
            have c41 := L.tl.tl.tl.tl.b0.c21
            have c50 := L.tl.tl.tl.tl.tl.b0.c20
            have c51 := L.tl.tl.tl.tl.tl.b0.c21
            have c60 := L.tl.tl.tl.tl.tl.tl.b0.c30
            have c61 := L.tl.tl.tl.tl.tl.tl.b0.c31
            have c62 := L.tl.tl.tl.tl.tl.tl.b0.c32
            clear c00 c01 c02 c10 c11 c12 c20 c21 c30 c31 c40 c41 c50 c51 c60 c61 c62
            replace L := L.drew
            have S0 := Lib.hid (fun v u W k1 k2 => same7_yes 0 0 v u W k1 k2)
            have c00 := L.b0.c30
            have c01 := L.b0.c31
            have c02 := L.b0.c32
            have c10 := L.tl.b0.c30
            have c11 := L.tl.b0.c31
            have c12 := L.tl.b0.c32
            have c20 := L.tl.tl.b0.c20
            have c21 := L.tl.tl.b0.c21
            have c30 := L.tl.tl.tl.b0.c20
            have c31 := L.tl.tl.tl.b0.c21
            have c40 := L.tl.tl.tl.tl.b0.c20
            have c41 := L.tl.tl.tl.tl.b0.c21
            have c50 := L.tl.tl.tl.tl.tl.b0.c20
            have c51 := L.tl.tl.tl.tl.tl.b0.c21
            have c60 := L.tl.tl.tl.tl.tl.tl.b0.c30
            have c61 := L.tl.tl.tl.tl.tl.tl.b0.c31
            have c62 := L.tl.tl.tl.tl.tl.tl.b0.c32
            refine wp_region_noPanic ?_
            refine wp_region_held_drew (S := fun w' => w'.cell? ⟨g4, 0, none⟩ = some (.bool (ng 0)) ∧ w'.cell? ⟨g4, 1, none⟩ = some (.slice A4 (zl 0) c4) ∧ w'.cell? ⟨g4, 2, none⟩ = some (.slice B4 (len 0) d4) ∧ w'.cell? ⟨g3, 0, none⟩ = some (.bool (ng 0)) ∧ w'.cell? ⟨g3, 1, none⟩ = some (.slice A3 (zl 0) c3) ∧ w'.cell? ⟨g3, 2, none⟩ = some (.slice B3 (len 0) d3) ∧ w'.cell? ⟨w.heap.size, 0, none⟩ = some (.bool b0) ∧ w'.cell? ⟨w.heap.size, 1, none⟩ = some (.slice a0 len0 cap0) ∧ w'.cell? ⟨w.heap.size, 2, none⟩ = some (.slice x0 nen0 nap0)) (by kernel_rfl) ?hS (fun hHeld => ?rest)
            case hS => exact ⟨L.b0.c30, L.b0.c31, L.b0.c32, L.tl.b0.c30, L.tl.b0.c31, L.tl.b0.c32, L.tl.tl.tl.tl.tl.tl.b0.c30, L.tl.tl.tl.tl.tl.tl.b0.c31, L.tl.tl.tl.tl.tl.tl.b0.c32⟩
            case rest =>
              refine wpAnyH_take (i := 0) (oi := { dst := some 58, op := _, type := _, pos := _, after := _, guard := _ }) (v := ?v0) rfl (by kernel_rfl) (by kernel_rfl) (by kernel_rfl) (fun _ _ _ h => h) (Or.inl ⟨by rfl, ?hy0⟩) (by assumption) ?rest0
              case hy0 => (intro w hSw; (try dsimp only at hSw); go_simp; (try with_reducible rfl))
              case rest0 =>
                (try simp only [Act.put, List.setIfInBounds_toArray, List.set_cons_zero, List.set_cons_succ])
                refine wpAnyH_take (i := 2) (oi := { dst := some 60, op := _, type := _, pos := _, after := _, guard := _ }) (v := ?v2) rfl (by kernel_rfl) (by kernel_rfl) (by kernel_rfl) (fun _ _ _ h => h) (Or.inl ⟨by rfl, ?hy2⟩) (by assumption) ?rest2
                case hy2 => (intro w hSw; (try dsimp only at hSw); go_simp; (try with_reducible rfl))
                case rest2 =>
                  (try simp only [Act.put, List.setIfInBounds_toArray, List.set_cons_zero, List.set_cons_succ])
                  refine wpAnyH_ready (rs := [1]) (by kernel_rfl) (by simp) ?_
                  refine AllReadyH.cons rfl (fun K hK => ?_) AllReadyH.nil
                  go_simp
                  go_at_call 13
                  refine (HV1.out _ ?_ ).mono ?_
                  · exact L.below
                  rintro e wh ⟨rfl, be⟩
                  replace L := L.step be
                  clear be
                  go_wp2_with fail
                  refine hK.out _ _ (by first | (with_reducible exact ⟨L.b0.c30, L.b0.c31, L.b0.c32, L.tl.b0.c30, L.tl.b0.c31, L.tl.b0.c32, L.tl.tl.tl.tl.tl.tl.b0.c30, L.tl.tl.tl.tl.tl.tl.b0.c31, L.tl.tl.tl.tl.tl.tl.b0.c32⟩) | exact ⟨L.b0.c30, L.b0.c31, L.b0.c32, L.tl.b0.c30, L.tl.b0.c31, L.tl.b0.c32, L.tl.tl.tl.tl.tl.tl.b0.c30, L.tl.tl.tl.tl.tl.tl.b0.c31, L.tl.tl.tl.tl.tl.tl.b0.c32⟩) (fun hHeld2 => ?_)
                  clear hK K hHeld
                  have hHeld := hHeld2
                  clear hHeld2
                  (try simp only [Act.put, List.setIfInBounds_toArray, List.set_cons_zero, List.set_cons_succ])
                  refine wpAnyH_ready (rs := [3]) (by kernel_rfl) (by simp) ?_
                  refine AllReadyH.cons rfl (fun K hK => ?_) AllReadyH.nil
                  go_simp
                  go_at_call 14
                  refine (HV2.out _ ?_ ).mono ?_
                  · exact L.below
                  rintro e wh ⟨rfl, be⟩
                  replace L := L.step be
                  clear be
                  go_wp2_with fail
                  refine hK.out _ _ (by first | (with_reducible exact ⟨L.b0.c30, L.b0.c31, L.b0.c32, L.tl.b0.c30, L.tl.b0.c31, L.tl.b0.c32, L.tl.tl.tl.tl.tl.tl.b0.c30, L.tl.tl.tl.tl.tl.tl.b0.c31, L.tl.tl.tl.tl.tl.tl.b0.c32⟩) | exact ⟨L.b0.c30, L.b0.c31, L.b0.c32, L.tl.b0.c30, L.tl.b0.c31, L.tl.b0.c32, L.tl.tl.tl.tl.tl.tl.b0.c30, L.tl.tl.tl.tl.tl.tl.b0.c31, L.tl.tl.tl.tl.tl.tl.b0.c32⟩) (fun hHeld2 => ?_)
                  clear hK K hHeld
                  have hHeld := hHeld2
                  clear hHeld2
                  (try simp only [Act.put, List.setIfInBounds_toArray, List.set_cons_zero, List.set_cons_succ])
                  refine wpAnyH_take (i := 4) (oi := { dst := some 62, op := _, type := _, pos := _, after := _, guard := _ }) (v := ?v4) rfl (by kernel_rfl) (by kernel_rfl) (by kernel_rfl) (fun _ _ _ h => h) (Or.inl ⟨by rfl, ?hy4⟩) (by assumption) ?rest4
                  case hy4 => (intro w hSw; (try dsimp only at hSw); go_simp; (try with_reducible rfl))
                  case rest4 =>
                    (try simp only [Act.put, List.setIfInBounds_toArray, List.set_cons_zero, List.set_cons_succ])
                    refine wpAnyH_take (i := 5) (oi := { dst := some 63, op := _, type := _, pos := _, after := _, guard := _ }) (v := ?v5) rfl (by kernel_rfl) (by kernel_rfl) (by kernel_rfl) (fun _ _ _ h => h) (Or.inl ⟨by rfl, ?hy5⟩) (by assumption) ?rest5
                    case hy5 => (intro w hSw; (try dsimp only at hSw); go_simp; (try with_reducible rfl))
                    case rest5 =>
                      (try simp only [Act.put, List.setIfInBounds_toArray, List.set_cons_zero, List.set_cons_succ])
                      refine wpAnyH_take (i := 6) (oi := { dst := some 64, op := _, type := _, pos := _, after := _, guard := _ }) (v := ?v6) rfl (by kernel_rfl) (by kernel_rfl) (by kernel_rfl) (fun _ _ _ h => h) (Or.inl ⟨by rfl, ?hy6⟩) (by assumption) ?rest6
                      case hy6 => (intro w hSw; (try dsimp only at hSw); go_simp; (try with_reducible rfl))
                      case rest6 =>
                        (try simp only [Act.put, List.setIfInBounds_toArray, List.set_cons_zero, List.set_cons_succ])
                        refine wpAnyH_take (i := 7) (oi := { dst := some 65, op := _, type := _, pos := _, after := _, guard := _ }) (v := ?v7) rfl (by kernel_rfl) (by kernel_rfl) (by kernel_rfl) (fun _ _ _ h => h) (Or.inl ⟨by rfl, ?hy7⟩) (by assumption) ?rest7
                        case hy7 => (intro w hSw; (try dsimp only at hSw); go_simp; (try with_reducible rfl))
                        case rest7 =>
                          (try simp only [Act.put, List.setIfInBounds_toArray, List.set_cons_zero, List.set_cons_succ])
                          refine wpAnyH_take (i := 8) (oi := { dst := some 66, op := _, type := _, pos := _, after := _, guard := _ }) (v := ?v8) rfl (by kernel_rfl) (by kernel_rfl) (by kernel_rfl) (fun _ _ _ h => h) (Or.inl ⟨by rfl, ?hy8⟩) (by assumption) ?rest8
                          case hy8 => (intro w hSw; (try dsimp only at hSw); go_simp; (try with_reducible rfl))
                          case rest8 =>
                            (try simp only [Act.put, List.setIfInBounds_toArray, List.set_cons_zero, List.set_cons_succ])
                            refine wpAnyH_take (i := 9) (oi := { dst := some 67, op := _, type := _, pos := _, after := _, guard := _ }) (v := ?v9) rfl (by kernel_rfl) (by kernel_rfl) (by kernel_rfl) (fun _ _ _ h => h) (Or.inl ⟨by rfl, ?hy9⟩) (by assumption) ?rest9
                            case hy9 => (intro w hSw; (try dsimp only at hSw); go_simp; (try with_reducible rfl))
                            case rest9 =>
                              (try simp only [Act.put, List.setIfInBounds_toArray, List.set_cons_zero, List.set_cons_succ])
                              refine wpAnyH_take (i := 10) (oi := { dst := some 68, op := _, type := _, pos := _, after := _, guard := _ }) (v := ?v10) rfl (by kernel_rfl) (by kernel_rfl) (by kernel_rfl) (fun _ _ _ h => h) (Or.inl ⟨by rfl, ?hy10⟩) (by assumption) ?rest10
                              case hy10 => (intro w hSw; (try dsimp only at hSw); go_simp; (try with_reducible rfl))
                              case rest10 =>
                                (try simp only [Act.put, List.setIfInBounds_toArray, List.set_cons_zero, List.set_cons_succ])
                                refine wpAnyH_take (i := 11) (oi := { dst := some 69, op := _, type := _, pos := _, after := _, guard := _ }) (v := ?v11) rfl (by kernel_rfl) (by kernel_rfl) (by kernel_rfl) (fun _ _ _ h => h) (Or.inl ⟨by rfl, ?hy11⟩) (by assumption) ?rest11
                                case hy11 => (intro w hSw; (try dsimp only at hSw); go_simp; (try with_reducible rfl))
                                case rest11 =>
                                  (try simp only [Act.put, List.setIfInBounds_toArray, List.set_cons_zero, List.set_cons_succ])
                                  refine wpAnyH_take (i := 12) (oi := { dst := some 70, op := _, type := _, pos := _, after := _, guard := _ }) (v := ?v12) rfl (by kernel_rfl) (by kernel_rfl) (by kernel_rfl) (fun _ _ _ h => h) (Or.inl ⟨by rfl, ?hy12⟩) (by assumption) ?rest12
                                  case hy12 => (intro w hSw; (try dsimp only at hSw); go_simp; (try with_reducible rfl))
                                  case rest12 =>
                                    (try simp only [Act.put, List.setIfInBounds_toArray, List.set_cons_zero, List.set_cons_succ])
                                    refine wpAnyH_ready (rs := [13]) (by kernel_rfl) (by simp) ?_
                                    refine AllReadyH.cons rfl (fun K hK => ?_) AllReadyH.nil
                                    go_simp
                                    go_at_call 15
                                    refine (S0.out _ _ _ ?_ ?_ ).mono ?_
                                    · (refine L.getQ ?_; (repeat (first | (with_reducible exact List.mem_cons_self) | apply List.mem_cons_of_mem)))
                                    · (refine L.getQ ?_; (repeat (first | (with_reducible exact List.mem_cons_self) | apply List.mem_cons_of_mem)))
                                    rintro e wh ⟨rfl, be⟩
                                    replace L := L.step be
                                    clear be
                                    go_wp2_with fail
                                    refine hK.out _ _ (by first | (with_reducible exact ⟨L.b0.c30, L.b0.c31, L.b0.c32, L.tl.b0.c30, L.tl.b0.c31, L.tl.b0.c32, L.tl.tl.tl.tl.tl.tl.b0.c30, L.tl.tl.tl.tl.tl.tl.b0.c31, L.tl.tl.tl.tl.tl.tl.b0.c32⟩) | exact ⟨L.b0.c30, L.b0.c31, L.b0.c32, L.tl.b0.c30, L.tl.b0.c31, L.tl.b0.c32, L.tl.tl.tl.tl.tl.tl.b0.c30, L.tl.tl.tl.tl.tl.tl.b0.c31, L.tl.tl.tl.tl.tl.tl.b0.c32⟩) (fun hHeld2 => ?_)
                                    clear hK K hHeld
                                    have hHeld := hHeld2
                                    clear hHeld2
                                    (try simp only [Act.put, List.setIfInBounds_toArray, List.set_cons_zero, List.set_cons_succ])
                                    refine wpAnyH_take (i := 14) (oi := { dst := some 72, op := _, type := _, pos := _, after := _, guard := _ }) (v := ?v14) rfl (by kernel_rfl) (by kernel_rfl) (by kernel_rfl) (fun _ _ _ h => h) (Or.inl ⟨by rfl, ?hy14⟩) (by assumption) ?rest14
                                    case hy14 => (intro w hSw; (try dsimp only at hSw); go_simp; (try with_reducible rfl))
                                    case rest14 =>
                                      (try simp only [Act.put, List.setIfInBounds_toArray, List.set_cons_zero, List.set_cons_succ])
                                      refine wpAnyH_take (i := 15) (oi := { dst := some 73, op := _, type := _, pos := _, after := _, guard := _ }) (v := ?v15) rfl (by kernel_rfl) (by kernel_rfl) (by kernel_rfl) (fun _ _ _ h => h) (Or.inl ⟨by rfl, ?hy15⟩) (by assumption) ?rest15
                                      case hy15 => (intro w hSw; (try dsimp only at hSw); go_simp; (try with_reducible rfl))
                                      case rest15 =>
                                        (try simp only [Act.put, List.setIfInBounds_toArray, List.set_cons_zero, List.set_cons_succ])
                                        refine wpAnyH_take (i := 16) (oi := { dst := some 74, op := _, type := _, pos := _, after := _, guard := _ }) (v := ?v16) rfl (by kernel_rfl) (by kernel_rfl) (by kernel_rfl) (fun _ _ _ h => h) (Or.inl ⟨by rfl, ?hy16⟩) (by assumption) ?rest16
                                        case hy16 => (intro w hSw; (try dsimp only at hSw); go_simp; (try with_reducible rfl))
                                        case rest16 =>
                                          (try simp only [Act.put, List.setIfInBounds_toArray, List.set_cons_zero, List.set_cons_succ])
                                          refine wpAnyH_take (i := 17) (oi := { dst := some 75, op := _, type := _, pos := _, after := _, guard := _ }) (v := ?v17) rfl (by kernel_rfl) (by kernel_rfl) (by kernel_rfl) (fun _ _ _ h => h) (Or.inl ⟨by rfl, ?hy17⟩) (by assumption) ?rest17
                                          case hy17 => (intro w hSw; (try dsimp only at hSw); go_simp; (try with_reducible rfl))
                                          case rest17 =>
                                            (try simp only [Act.put, List.setIfInBounds_toArray, List.set_cons_zero, List.set_cons_succ])
                                            refine wpAnyH_take (i := 18) (oi := { dst := some 76, op := _, type := _, pos := _, after := _, guard := _ }) (v := ?v18) rfl (by kernel_rfl) (by kernel_rfl) (by kernel_rfl) (fun _ _ _ h => h) (Or.inl ⟨by rfl, ?hy18⟩) (by assumption) ?rest18
                                            case hy18 => (intro w hSw; (try dsimp only at hSw); go_simp; (try with_reducible rfl))
                                            case rest18 =>
                                              (try simp only [Act.put, List.setIfInBounds_toArray, List.set_cons_zero, List.set_cons_succ])
                                              refine wpAnyH_take (i := 19) (oi := { dst := some 77, op := _, type := _, pos := _, after := _, guard := _ }) (v := undef) rfl (by kernel_rfl) (by kernel_rfl) (by kernel_rfl) (fun _ _ _ h => h) (Or.inr ⟨by rfl, rfl⟩) (by assumption) ?_
                                              (try simp only [Act.put, List.setIfInBounds_toArray, List.set_cons_zero, List.set_cons_succ])
                                              refine wpAnyH_take (i := 20) (oi := { dst := some 78, op := _, type := _, pos := _, after := _, guard := _ }) (v := undef) rfl (by kernel_rfl) (by kernel_rfl) (by kernel_rfl) (fun _ _ _ h => h) (Or.inr ⟨by rfl, rfl⟩) (by assumption) ?_
                                              (try simp only [Act.put, List.setIfInBounds_toArray, List.set_cons_zero, List.set_cons_succ])
                                              refine wpAnyH_take (i := 21) (oi := { dst := some 79, op := _, type := _, pos := _, after := _, guard := _ }) (v := ?v21) rfl (by kernel_rfl) (by kernel_rfl) (by kernel_rfl) (fun _ _ _ h => h) (Or.inl ⟨by rfl, ?hy21⟩) (by assumption) ?rest21
                                              case hy21 => (intro w hSw; (try dsimp only at hSw); go_simp; (try with_reducible rfl))
                                              case rest21 =>
                                                (try simp only [Act.put, List.setIfInBounds_toArray, List.set_cons_zero, List.set_cons_succ])
                                                refine wpAnyH_take (i := 22) (oi := { dst := some 80, op := _, type := _, pos := _, after := _, guard := _ }) (v := ?v22) rfl (by kernel_rfl) (by kernel_rfl) (by kernel_rfl) (fun _ _ _ h => h) (Or.inl ⟨by rfl, ?hy22⟩) (by assumption) ?rest22
                                                case hy22 => (intro w hSw; (try dsimp only at hSw); go_simp; (try with_reducible rfl))
                                                case rest22 =>
                                                  (try simp only [Act.put, List.setIfInBounds_toArray, List.set_cons_zero, List.set_cons_succ])
                                                  refine wpAnyH_take (i := 23) (oi := { dst := some 6, op := _, type := _, pos := _, after := _, guard := _ }) (v := ?v23) rfl (by kernel_rfl) (by kernel_rfl) (by kernel_rfl) (fun _ _ _ h => h) (Or.inl ⟨by rfl, ?hy23⟩) (by assumption) ?rest23
                                                  case hy23 => (intro w hSw; (try dsimp only at hSw); go_simp; (try with_reducible rfl))
                                                  case rest23 =>
                                                    (try simp only [Act.put, List.setIfInBounds_toArray, List.set_cons_zero, List.set_cons_succ])
                                                    refine wpAnyH_done (by kernel_rfl) ?_ _
                                                    refine NoPanic.normal ?_
                                                    clear c00 c01 c02 c10 c11 c12 c20 c21 c30 c31 c40 c41 c50 c51 c60 c61 c62
                                                    go_wp2_with fail
                                                    go_ret
                                                    exact ⟨rfl, L.below⟩
          · have R0 := Lib.hid (M2.out hy)
            have R1 := Lib.hid (M3.out hy)
            have hs := HSZ.out hy
            clear M0 M1 M2 M3 HSZ hy
            generalize (Rat.divInt x y).num = rn at *
            generalize (Rat.divInt x y).den = rd at *
            have HVQ := Lib.hid (fun v W k1 => pvalid_q rn rd hs.2.1 hs.2.2 hs.1.1 hs.1.2 v W k1)
            clear hs
            have c00 := L.b0.c20
            have c01 := L.b0.c21
            have c10 := L.tl.b0.c20
            have c11 := L.tl.b0.c21
            have c20 := L.tl.tl.b0.c20
            have c21 := L.tl.tl.b0.c21
            have c30 := L.tl.tl.tl.b0.c20
            have c31 := L.tl.tl.tl.b0.c21
            have c40 := L.tl.tl.tl.tl.b0.c30
            have c41 := L.tl.tl.tl.tl.b0.c31
            have c42 := L.tl.tl.tl.tl.b0.c32
            refine (R0.out _ _ _ (L.getZ (by simp)) (L.getZ (by simp))).mono ?_
            rintro e w4 ⟨v, rfl, iq, be⟩
            clear c00 c01 c10 c11 c20 c21 c30 c31 c40 c41 c42
            replace L := (L.step be).q iq
            obtain ⟨A3, c3, B3, d3, rfl, _, _, _⟩ := iq.form
            clear be iq
            have hl3 := L.b0.lt
            replace L := L.varQ w4.heap.size rfl (ng rn) A3 B3 (zl rn) c3 (len rd) d3
            have c00 := L.b0.c30
            have c01 := L.b0.c31
            have c02 := L.b0.c32
            have c10 := L.tl.b0.c20
            have c11 := L.tl.b0.c21
            have c20 := L.tl.tl.b0.c20
            have c21 := L.tl.tl.b0.c21
            have c30 := L.tl.tl.tl.b0.c20
            have c31 := L.tl.tl.tl.b0.c21
            have c40 := L.tl.tl.tl.tl.b0.c20
            have c41 := L.tl.tl.tl.tl.b0.c21
            have c50 := L.tl.tl.tl.tl.tl.b0.c30
            have c51 := L.tl.tl.tl.tl.tl.b0.c31
            have c52 := L.tl.tl.tl.tl.tl.b0.c32
            go_wp2_with fail
            clear c00 c01 c02 c10 c11 c20 c21 c30 c31 c40 c41 c50 c51 c52
            obtain ⟨g3, hg⟩ : ∃ g, w4.heap.size = g := ⟨_, rfl⟩
            rw [hg] at L hl3 ⊢
            clear hg
            have c00 := L.b0.c30
            have c01 := L.b0.c31
            have c02 := L.b0.c32
            have c10 := L.tl.b0.c20
            have c11 := L.tl.b0.c21
            have c20 := L.tl.tl.b0.c20
            have c21 := L.tl.tl.b0.c21
            have c30 := L.tl.tl.tl.b0.c20
            have c31 := L.tl.tl.tl.b0.c21
            have c40 := L.tl.tl.tl.tl.b0.c20
            have c41 := L.tl.tl.tl.tl.b0.c21
            have c50 := L.tl.tl.tl.tl.tl.b0.c30
            have c51 := L.tl.tl.tl.tl.tl.b0.c31
            have c52 := L.tl.tl.tl.tl.tl.b0.c32
            refine (R1.out _ _ _ (L.getZ (by simp)) (L.getZ (by simp))).mono ?_
            rintro e w5 ⟨v, rfl, iq, be⟩
            clear c00 c01 c02 c10 c11 c20 c21 c30 c31 c40 c41 c50 c51 c52
            replace L := (L.step be).q iq
            obtain ⟨A4, c4, B4, d4, rfl, _, _, _⟩ := iq.form
            clear be iq
            have hl4 := L.b0.lt
            replace L := L.varQ w5.heap.size rfl (ng rn) A4 B4 (zl rn) c4 (len rd) d4
            have c00 := L.b0.c30
            have c01 := L.b0.c31
            have c02 := L.b0.c32
            have c10 := L.tl.b0.c30
            have c11 := L.tl.b0.c31
            have c12 := L.tl.b0.c32
            have c20 := L.tl.tl.b0.c20
            have c21 := L.tl.tl.b0.c21
            have c30 := L.tl.tl.tl.b0.c20
            have c31 := L.tl.tl.tl.b0.c21
            have c40 := L.tl.tl.tl.tl.b0.c20
            have c41 := L.tl.tl.tl.tl.b0.c21
            have c50 := L.tl.tl.tl.tl.tl.b0.c20
            have c51 := L.tl.tl.tl.tl.tl.b0.c21
            have c60 := L.tl.tl.tl.tl.tl.tl.b0.c30
            have c61 := L.tl.tl.tl.tl.tl.tl.b0.c31
            have c62 := L.tl.tl.tl.tl.tl.tl.b0.c32
            go_wp2_with fail
            clear c00 c01 c02 c10 c11 c12 c20 c21 c30 c31 c40 c41 c50 c51 c60 c61 c62
            obtain ⟨g4, hg⟩ : ∃ g, w5.heap.size = g := ⟨_, rfl⟩
            rw [hg] at L hl4 ⊢
            clear hg
            have c00 := L.b0.c30
            have c01 := L.b0.c31
            have c02 := L.b0.c32
            have c10 := L.tl.b0.c30
            have c11 := L.tl.b0.c31
            have c12 := L.tl.b0.c32
            have c20 := L.tl.tl.b0.c20
            have c21 := L.tl.tl.b0.c21
            have c30 := L.tl.tl.tl.b0.c20
            have c31 := L.tl.tl.tl.b0.c21
            have c40 := L.tl.tl.tl.tl.b0.c20
            have c41 := L.tl.tl.tl.tl.b0.c21
            have c50 := L.tl.tl.tl.tl.tl.b0.c20
            have c51 := L.tl.tl.tl.tl.tl.b0.c21
            have c60 := L.tl.tl.tl.tl.tl.tl.b0.c30
            have c61 := L.tl.tl.tl.tl.tl.tl.b0.c31
            have c62 := L.tl.tl.tl.tl.tl.tl.b0.c32
            clear c00 c01 c02 c10 c11 c12 c20 c21 c30 c31 c40 c41 c50 c51 c60 c61 c62
            replace L := L.drew
            have S0 := Lib.hid (fun v u W k1 k2 => same7_yes rn rd v u W k1 k2)
            have c00 := L.b0.c30
            have c01 := L.b0.c31
            have c02 := L.b0.c32
            have c10 := L.tl.b0.c30
            have c11 := L.tl.b0.c31
            have c12 := L.tl.b0.c32
            have c20 := L.tl.tl.b0.c20
            have c21 := L.tl.tl.b0.c21
            have c30 := L.tl.tl.tl.b0.c20
            have c31 := L.tl.tl.tl.b0.c21
            have c40 := L.tl.tl.tl.tl.b0.c20
            have c41 := L.tl.tl.tl.tl.b0.c21
            have c50 := L.tl.tl.tl.tl.tl.b0.c20
            have c51 := L.tl.tl.tl.tl.tl.b0.c21
            have c60 := L.tl.tl.tl.tl.tl.tl.b0.c30
            have c61 := L.tl.tl.tl.tl.tl.tl.b0.c31
            have c62 := L.tl.tl.tl.tl.tl.tl.b0.c32
            go_region_held3 (fun w' => w'.cell? ⟨g4, 0, none⟩ = some (.bool (ng rn)) ∧ w'.cell? ⟨g4, 1, none⟩ = some (.slice A4 (zl rn) c4) ∧ w'.cell? ⟨g4, 2, none⟩ = some (.slice B4 (len rd) d4) ∧ w'.cell? ⟨g3, 0, none⟩ = some (.bool (ng rn)) ∧ w'.cell? ⟨g3, 1, none⟩ = some (.slice A3 (zl rn) c3) ∧ w'.cell? ⟨g3, 2, none⟩ = some (.slice B3 (len rd) d3) ∧ w'.cell? ⟨w.heap.size, 0, none⟩ = some (.bool b0) ∧ w'.cell? ⟨w.heap.size, 1, none⟩ = some (.slice a0 len0 cap0) ∧ w'.cell? ⟨w.heap.size, 2, none⟩ = some (.slice x0 nen0 nap0)) (first | (with_reducible exact ⟨L.b0.c30, L.b0.c31, L.b0.c32, L.tl.b0.c30, L.tl.b0.c31, L.tl.b0.c32, L.tl.tl.tl.tl.tl.tl.b0.c30, L.tl.tl.tl.tl.tl.tl.b0.c31, L.tl.tl.tl.tl.tl.tl.b0.c32⟩) | exact ⟨L.b0.c30, L.b0.c31, L.b0.c32, L.tl.b0.c30, L.tl.b0.c31, L.tl.b0.c32, L.tl.tl.tl.tl.tl.tl.b0.c30, L.tl.tl.tl.tl.tl.tl.b0.c31, L.tl.tl.tl.tl.tl.tl.b0.c32⟩) (first | (go_at_call 13; (with_reducible refine (HV1.out _ ?_ ).mono ?_); (· exact L.below); rintro e wh ⟨rfl, be⟩; replace L := L.step be; clear be) | (go_at_call 14; (with_reducible refine (HV2.out _ ?_ ).mono ?_); (· exact L.below); rintro e wh ⟨rfl, be⟩; replace L := L.step be; clear be) | (go_at_call 15; (with_reducible refine (S0.out _ _ _ ?_ ?_ ).mono ?_); (· (refine L.getQ ?_; (repeat (first | (with_reducible exact List.mem_cons_self) | apply List.mem_cons_of_mem)))); (· (refine L.getQ ?_; (repeat (first | (with_reducible exact List.mem_cons_self) | apply List.mem_cons_of_mem)))); rintro e wh ⟨rfl, be⟩; replace L := L.step be; clear be) | (go_at_call 13; (with_reducible refine (HVQ.out _ _ ?_ ).mono ?_); (· (refine L.getQ ?_; (repeat (first | (with_reducible exact List.mem_cons_self) | apply List.mem_cons_of_mem)))); rintro e wh ⟨rfl, be⟩; replace L := L.step be; clear be))
            clear c00 c01 c02 c10 c11 c12 c20 c21 c30 c31 c40 c41 c50 c51 c60 c61 c62
            go_wp2_with fail
            go_ret
            exact ⟨rfl, L.below⟩

end Go.Proofs.YtbndgggjfjdfbaaGreatDoor
