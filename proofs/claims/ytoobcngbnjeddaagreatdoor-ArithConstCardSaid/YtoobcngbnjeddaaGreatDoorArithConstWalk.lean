/- The walk of ArithConst: whatever the input, the law returns true and turns nothing that was there. -/
import Derived.Test.YtoobcngbnjeddaaGreatDoorAwake11
import Derived.Test.YtoobcngbnjeddaaGreatDoorBaseF
import Derived.Test.YtoobcngbnjeddaaGreatDoorBaseX
import Derived.Test.YtoobcngbnjeddaaGreatDoorBaseW
import Derived.Test.YtoobcngbnjeddaaGreatDoorArPF
import Derived.Deep.RegionHeld3
import Derived.Deep.DrawnRows
namespace Go.Proofs.YtoobcngbnjeddaaGreatDoor
open Go.RowKit
set_option linter.unusedVariables false
set_option linter.unusedSimpArgs false
set_option maxRecDepth 100000
attribute [local go_sem ↓] Go.wp_at_zero Go.wp_at_succ

set_option maxHeartbeats 64000000 in
theorem walk_ArithConst (b0 : Bool) (a0 : Option Addr) (len0 cap0 : Nat) (z0 : List Nat) (x0 : Option Addr) (nen0 nap0 : Nat) (y0 : List Nat) (a1 : Int) (w : World) (h0 : Sl w a0 len0 cap0 z0 ∧ Sl w x0 nen0 nap0 y0) (h1 : -9223372036854775808 ≤ a1 ∧ a1 ≤ 9223372036854775807) (hT : Tab w) :
    Calls Tryz.prog 5 #[.agg #[.bool b0, .slice a0 len0 cap0, .slice x0 nen0 nap0], .int .i64 a1] w (fun e w' => e = .returned (.bool true) ∧ Below w.heap.size w w') := by
  have HT := Lib.hid (fun W (hW : Below w.heap.size w W) => hT.mono hW)
  clear hT
  go_enter Tryz.func5, Tryz.ntmps5
  go_wp2_with fail
  have L := ((Lq.mk0 w).varQ (w.heap.size) (by simp) b0 a0 x0 len0 cap0 nen0 nap0)
  (try go_wp2_with fail)
  refine (awake11_any _ (HT.out _ L.below)).mono ?_
  rintro e9 w1 ⟨rfl, be⟩
  replace L := L.step be
  clear be
  have c00 := L.b0.c30
  have c01 := L.b0.c31
  have c02 := L.b0.c32
  (try go_wp2_with fail)
  refine (millRat_any b0 z0 y0 8 a0 x0 len0 cap0 nen0 nap0 _ (h0.1.mono L.below) (h0.2.mono L.below) (by omega)).mono ?_
  rintro e9 w2 ⟨vq, fine, a, q, rfl, iq, la, lq, hvq, be⟩
  clear c00 c01 c02
  replace L := (L.step be).q iq
  obtain ⟨C, cq, H, i9, rfl, _, _, _⟩ := iq.form
  clear be iq
  have hlt2 := L.b0.lt
  replace L := L.varQ w2.heap.size rfl (ng a) C H (zl a) cq (len q) i9
  cases fine
  · go_wp2_with fail
    go_ret
    exact ⟨rfl, L.below⟩
  have hd0 : 0 < q := by obtain ⟨q9, _, e1⟩ := hvq (by first | trivial | rfl); rw [e1]; exact den_pos' q9
  clear hvq
  have cel00 := L.b0.c30
  have cel01 := L.b0.c31
  have cel02 := L.b0.c32
  go_wp2_with fail
  obtain ⟨g, hg⟩ : ∃ g, w2.heap.size = g := ⟨_, rfl⟩
  rw [hg] at L hlt2 cel00 cel01 cel02 ⊢
  clear hg
  refine (works_any a1 _ h1.1 h1.2).mono ?_
  rintro e9 w3 ⟨gw, N0, N1, N2, N3, rfl, hvw, hNN, be⟩
  replace L := L.step be
  clear be
  clear cel00 cel01 cel02
  have HCE := Lib.hid (fun (wr : World) (hW : Below w3.heap.size w3 wr) (j : Nat) (hj : j < 4) => row4_cell (hvw.mono hW) hNN j hj)
  have hgw := hvw.lt
  have GQ := Lib.hid (fun (wr : World) (hW : Below w3.heap.size w3 wr) => (L.getQ (v := .agg #[.bool (ng a), .slice C (zl a) cq, .slice H (len q) i9]) (a := a) (d := q) (by simp)).mono hW)
  have VQ := Lib.hid (fun (wr : World) (hW : Below w3.heap.size w3 wr) => L.b0.mono hW)
  have hwV := L.below.size
  have hWW := Lib.hid (fun (wr : World) (hW : Below w3.heap.size w3 wr) => L.below.trans (hW.mono hwV))
  clear hNN hvw L
  go_wp2_with fail
  go_loopw [25] (fun i wr => ∃ t : Nat, i = .int .i64 (t : Int) ∧ t ≤ 4 ∧ Below w3.heap.size w3 wr) (fun i _ => 4 - (intOf i).toNat)
  case atStart => exact ⟨0, rfl, by omega, Below.refl _ _⟩
  case round =>
    obtain ⟨t, rfl, ht, hbe⟩ := hrel
    have hbs := hbe.size
    have hw9 := (hWW.out wr hbe).size
    have HW0 := Lib.hid (fun W (hW : Below wr.heap.size wr W) => (hWW.out wr hbe).trans (hW.mono hw9))
    rcases Nat.eq_or_lt_of_le ht with rfl | ht3
    · go_wp2_with fail
      go_ret
      exact ⟨rfl, HW0.out _ (Below.refl _ _)⟩
    · obtain ⟨N, hN, hNa, hNb⟩ := HCE.out wr hbe t ht3
      have hlt : (t : Int) < 4 := by omega
      have ht0 : (0 : Int) ≤ (t : Int) := by omega
      have L : Lq wr wr [] [] [(.agg #[.bool (ng a), .slice C (zl a) cq, .slice H (len q) i9], a, q)] [(g, 45, #[.bool (ng a), .slice C (zl a) cq, .slice H (len q) i9])] := ((Lq.mk0 wr).q (GQ.out wr hbe)).b (VQ.out wr hbe)
      obtain ⟨M1, E1, N1, G1, r1, fx1, ⟨zm1, ze1⟩, ⟨zn1, zg1⟩, hok, hdv⟩ := RetEn.fix (Rat.divInt a (q : Int)) (Rat.divInt a (q : Int)) N
      have hhas : r1 = 0 → hasB M1 E1 N1 G1 a q = true := fun h => by
        obtain ⟨_, x1, x2, rfl, rfl, rfl, rfl⟩ := hok h
        rw [hasB_iff _ _ _ _ _ _ hd0]
        exact ⟨en_lo x1, up_hi x2⟩
      clear hok hdv
      have p1 := fun v W h (hW : Below wr.heap.size wr W) => aconst_any a q N v W h (by omega) (by omega) hd0 hNa hNb (HT.out W (HW0.out W hW))
      have q1 := fun v W h => rconst_any a q N v W h (by omega) (by omega) hd0 hNa hNb
      simp only [fx1] at p1 q1
      have ha := fun v u W h1 h2 => r10has_any M1 E1 N1 G1 a q v u W h1 h2 (by omega) (by omega) (by omega) (by omega) (by omega) (by omega)
      have P1 := Lib.hid p1
      have Q1 := Lib.hid q1
      have S1 := Lib.hid (fun v u W h1 h2 => (show Calls Tryz.prog 20 #[v, u] W (RetB W true) from by have s := r10same_any M1 E1 N1 G1 M1 E1 N1 G1 v u W h1 h2 (by omega) (by omega) (by omega) (by omega) (by omega) (by omega) (by omega) (by omega); rwa [show ((decide ((E1 : Int) = E1) && decide ((M1 : Int) = M1)) && (decide ((G1 : Int) = G1) && decide ((N1 : Int) = N1))) = true from by simp] at s))
      have ne1 : (r1 != r1) = false := by simp
      clear p1 q1 fx1 zm1 ze1 zn1 zg1 la lq hd0 HCE GQ VQ hNa hNb
      by_cases hr : r1 = 0
      · rw [hhas hr] at ha
        have b0 : (r1 == 0) = true := by simpa using hr
        have HA := Lib.hid ha
        clear ha hhas hr
        have cel00 := L.b0.c30
        have cel01 := L.b0.c31
        have cel02 := L.b0.c32
        go_wp2_with fail
        refine (P1.out _ _ (L.getQ (v := .agg #[.bool (ng a), .slice C (zl a) cq, .slice H (len q) i9]) (a := a) (d := q) (by simp)) L.below).mono ?_
        rintro e w101 ⟨vv, rfl, ii, be⟩
        clear cel00 cel01 cel02
        obtain ⟨A10, c10, B10, d10, rfl, ia, ib⟩ := ii.form
        replace L := ((L.step be).n ib).n ia
        clear be ii ia ib
        have hlgv1 := L.b0.lt
        replace L := L.varI w101.heap.size rfl (ng M1) A10 (zl M1) c10 E1 (ng N1) B10 (zl N1) d10 G1
        have cel10 := L.tl.b0.c30
        have cel11 := L.tl.b0.c31
        have cel12 := L.tl.b0.c32
        go_wp2_with fail
        obtain ⟨gv1, hg⟩ : ∃ g, w101.heap.size = g := ⟨_, rfl⟩
        rw [hg] at L hlgv1 ⊢
        clear hg
        refine (Q1.out _ _ (L.getQ (v := .agg #[.bool (ng a), .slice C (zl a) cq, .slice H (len q) i9]) (a := a) (d := q) (by simp))).mono ?_
        rintro e w102 ⟨vv, rfl, ii, be⟩
        clear cel10 cel11 cel12
        obtain ⟨A11, c11, B11, d11, rfl, ia, ib⟩ := ii.form
        replace L := ((L.step be).n ib).n ia
        clear be ii ia ib
        have hlgv2 := L.b0.lt
        replace L := L.varI w102.heap.size rfl (ng M1) A11 (zl M1) c11 E1 (ng N1) B11 (zl N1) d11 G1
        have cel00 := L.b0.c60
        have cel01 := L.b0.c61
        have cel02 := L.b0.c62
        have cel03 := L.b0.c63
        have cel04 := L.b0.c64
        have cel05 := L.b0.c65
        have cel10 := L.tl.b0.c60
        have cel11 := L.tl.b0.c61
        have cel12 := L.tl.b0.c62
        have cel13 := L.tl.b0.c63
        have cel14 := L.tl.b0.c64
        have cel15 := L.tl.b0.c65
        go_wp2_with fail
        obtain ⟨gv2, hg⟩ : ∃ g, w102.heap.size = g := ⟨_, rfl⟩
        rw [hg] at L hlgv2 cel00 cel01 cel02 cel03 cel04 cel05 ⊢
        clear hg
        refine (S1.out _ _ _ (isI_n (m := M1) (e := E1) (n := N1) (f := G1) (s := .slice A10 (zl M1) c10) (t := .slice B10 (zl N1) d10) (L.getN (by simp)) (L.getN (by simp))) (isI_n (m := M1) (e := E1) (n := N1) (f := G1) (s := .slice A11 (zl M1) c11) (t := .slice B11 (zl N1) d11) (L.getN (by simp)) (L.getN (by simp)))).mono ?_
        rintro e w103 ⟨rfl, be⟩
        clear cel00 cel01 cel02 cel03 cel04 cel05 cel10 cel11 cel12 cel13 cel14 cel15
        replace L := L.step be
        clear be
        have cel10 := L.tl.b0.c60
        have cel11 := L.tl.b0.c61
        have cel12 := L.tl.b0.c62
        have cel13 := L.tl.b0.c63
        have cel14 := L.tl.b0.c64
        have cel15 := L.tl.b0.c65
        have cel20 := L.tl.tl.b0.c30
        have cel21 := L.tl.tl.b0.c31
        have cel22 := L.tl.tl.b0.c32
        go_wp2_with fail
        refine (HA.out _ _ _ (isI_n (m := M1) (e := E1) (n := N1) (f := G1) (s := .slice A10 (zl M1) c10) (t := .slice B10 (zl N1) d10) (L.getN (by simp)) (L.getN (by simp))) (L.getQ (v := .agg #[.bool (ng a), .slice C (zl a) cq, .slice H (len q) i9]) (a := a) (d := q) (by simp))).mono ?_
        rintro e w104 ⟨rfl, be⟩
        clear cel10 cel11 cel12 cel13 cel14 cel15 cel20 cel21 cel22
        replace L := L.step be
        clear be
        go_wp2_with fail
        go_roundw
        case rel => exact ⟨t + 1, by go_num, by omega, hbe.trans (L.below.mono hbs)⟩
        case measure => simp [intOf]; omega
      · have b0 : (r1 == 0) = false := by simpa using hr
        clear ha hhas hr
        have cel00 := L.b0.c30
        have cel01 := L.b0.c31
        have cel02 := L.b0.c32
        go_wp2_with fail
        refine (P1.out _ _ (L.getQ (v := .agg #[.bool (ng a), .slice C (zl a) cq, .slice H (len q) i9]) (a := a) (d := q) (by simp)) L.below).mono ?_
        rintro e w101 ⟨vv, rfl, ii, be⟩
        clear cel00 cel01 cel02
        obtain ⟨A10, c10, B10, d10, rfl, ia, ib⟩ := ii.form
        replace L := ((L.step be).n ib).n ia
        clear be ii ia ib
        have hlgv1 := L.b0.lt
        replace L := L.varI w101.heap.size rfl (ng M1) A10 (zl M1) c10 E1 (ng N1) B10 (zl N1) d10 G1
        have cel10 := L.tl.b0.c30
        have cel11 := L.tl.b0.c31
        have cel12 := L.tl.b0.c32
        go_wp2_with fail
        obtain ⟨gv1, hg⟩ : ∃ g, w101.heap.size = g := ⟨_, rfl⟩
        rw [hg] at L hlgv1 ⊢
        clear hg
        refine (Q1.out _ _ (L.getQ (v := .agg #[.bool (ng a), .slice C (zl a) cq, .slice H (len q) i9]) (a := a) (d := q) (by simp))).mono ?_
        rintro e w102 ⟨vv, rfl, ii, be⟩
        clear cel10 cel11 cel12
        obtain ⟨A11, c11, B11, d11, rfl, ia, ib⟩ := ii.form
        replace L := ((L.step be).n ib).n ia
        clear be ii ia ib
        have hlgv2 := L.b0.lt
        replace L := L.varI w102.heap.size rfl (ng M1) A11 (zl M1) c11 E1 (ng N1) B11 (zl N1) d11 G1
        have cel00 := L.b0.c60
        have cel01 := L.b0.c61
        have cel02 := L.b0.c62
        have cel03 := L.b0.c63
        have cel04 := L.b0.c64
        have cel05 := L.b0.c65
        have cel10 := L.tl.b0.c60
        have cel11 := L.tl.b0.c61
        have cel12 := L.tl.b0.c62
        have cel13 := L.tl.b0.c63
        have cel14 := L.tl.b0.c64
        have cel15 := L.tl.b0.c65
        go_wp2_with fail
        obtain ⟨gv2, hg⟩ : ∃ g, w102.heap.size = g := ⟨_, rfl⟩
        rw [hg] at L hlgv2 cel00 cel01 cel02 cel03 cel04 cel05 ⊢
        clear hg
        refine (S1.out _ _ _ (isI_n (m := M1) (e := E1) (n := N1) (f := G1) (s := .slice A10 (zl M1) c10) (t := .slice B10 (zl N1) d10) (L.getN (by simp)) (L.getN (by simp))) (isI_n (m := M1) (e := E1) (n := N1) (f := G1) (s := .slice A11 (zl M1) c11) (t := .slice B11 (zl N1) d11) (L.getN (by simp)) (L.getN (by simp)))).mono ?_
        rintro e w103 ⟨rfl, be⟩
        clear cel00 cel01 cel02 cel03 cel04 cel05 cel10 cel11 cel12 cel13 cel14 cel15
        replace L := L.step be
        clear be
        go_wp2_with fail
        go_roundw
        case rel => exact ⟨t + 1, by go_num, by omega, hbe.trans (L.below.mono hbs)⟩
        case measure => simp [intOf]; omega

end Go.Proofs.YtoobcngbnjeddaaGreatDoor
