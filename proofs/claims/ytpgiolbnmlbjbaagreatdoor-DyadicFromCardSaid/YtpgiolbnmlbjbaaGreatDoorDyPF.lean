/- The program's read and Parse. -/
import Derived.Test.YtpgiolbnmlbjbaaGreatDoorDyPB
import Derived.Test.YtpgiolbnmlbjbaaGreatDoorDyTxt
import Derived.Test.YtpgiolbnmlbjbaaGreatDoorItoa
import Derived.Test.YtpgiolbnmlbjbaaGreatDoorPars
import Derived.Deep.RegionHeld3
import Derived.Deep.DrawnRows
namespace Go.Proofs.YtpgiolbnmlbjbaaGreatDoor
open Go.RowKit
set_option linter.unusedVariables false
set_option linter.unusedSimpArgs false
set_option maxRecDepth 100000
attribute [local go_sem ↓] Go.wp_at_zero Go.wp_at_succ

/-- What read returns of two texts. -/
def rdO (a b : List Nat) : Bool := decide (errP a = 0) && decide (errP b = 0)
def rdM (a b : List Nat) : Int := if rdO a b then valP a else 0
def rdE (a b : List Nat) : Int := if rdO a b then zi (valP b) else 0
def rdB (a b : List Nat) : Bool := rdO a b && zb (valP b)
theorem okD8_rd (a b : List Nat) : okD8 a b = (rdB a b && vd8 (rdM a b) (rdE a b)) := by
  unfold okD8 rdB rdM rdE rdO
  by_cases h1 : errP a = 0
  · by_cases h2 : errP b = 0
    · rw [decide_eq_true h1, decide_eq_true h2]; simp
    · rw [decide_eq_true h1, decide_eq_false h2]; simp
  · rw [decide_eq_false h1]; simp
theorem ok8_all (l : List Nat) : ok8 l = okD8 (hd8 l) (tl8 l) := by
  unfold ok8
  by_cases h : 112 ∈ l
  · rw [decide_eq_true h, Bool.true_and]
  · rw [decide_eq_false h, Bool.false_and, (hd8_no h).2]
    have e : decide (errP [] = 0) = false := by decide
    unfold okD8
    rw [e]
    simp
theorem hd8_byt {l : List Nat} (h : Byt l) : Byt (hd8 l) := fun x hx => h x (List.takeWhile_sublist _ |>.subset hx)
theorem tl8_byt {l : List Nat} (h : Byt l) : Byt (tl8 l) := fun x hx => h x ((List.dropWhile_sublist _).subset ((List.drop_sublist _ _).subset hx))
theorem hd8_len (l : List Nat) : (hd8 l).length ≤ l.length := (List.takeWhile_sublist _).length_le
theorem tl8_len (l : List Nat) : (tl8 l).length ≤ l.length := Nat.le_trans (List.drop_sublist _ _).length_le (List.dropWhile_sublist _).length_le

set_option maxHeartbeats 4000000 in
theorem read_any (a b : List Nat) (w : World) (ha : Byt a) (hb : Byt b) (la : a.length ≤ 1000000) (lb : b.length ≤ 1000000) :
    Calls Tryz.prog 90 #[.string (str a), .string (str b)] w (RetDB w (rdM a b) (rdE a b) (rdB a b)) := by
  have HA := Lib.hid (fun W => parse_any a W ha la)
  have HB := Lib.hid (fun W => parse_any b W hb lb)
  have HI := Lib.hid (fun W v h => zint_any (valP b) v W h)
  obtain ⟨M2, hM2⟩ : ∃ M2, rdM a b = M2 := ⟨_, rfl⟩
  obtain ⟨N2, hN2⟩ : ∃ N2, rdE a b = N2 := ⟨_, rfl⟩
  obtain ⟨R, hR⟩ : ∃ R, rdB a b = R := ⟨_, rfl⟩
  rw [hM2, hN2, hR]
  unfold rdM rdO at hM2
  unfold rdE rdO at hN2
  unfold rdB rdO at hR
  obtain ⟨E1, hE1⟩ : ∃ E1, errP a = E1 := ⟨_, rfl⟩
  obtain ⟨E2, hE2⟩ : ∃ E2, errP b = E2 := ⟨_, rfl⟩
  rw [hE1] at hR hM2 hN2 HA
  rw [hE2] at hR hM2 hN2 HB
  have HF : ((decide (E1 = 0) && decide (E2 = 0)) = true → M2 = valP a ∧ N2 = zi (valP b) ∧ R = zb (valP b)) ∧ ((decide (E1 = 0) && decide (E2 = 0)) = false → M2 = 0 ∧ N2 = 0 ∧ R = false) := by
    refine ⟨fun h => ?_, fun h => ?_⟩ <;> rw [h] at hR hM2 hN2
    · exact ⟨hM2.symm, hN2.symm, by rw [← hR, Bool.true_and]⟩
    · exact ⟨hM2.symm, hN2.symm, by rw [← hR, Bool.false_and]⟩
  clear hR hM2 hN2 hE1 hE2
  generalize zb (valP b) = ok at *
  generalize zi (valP b) = N at *
  generalize valP a = M at *
  generalize valP b = X at *
  generalize str a = sa at *
  generalize str b = sb at *
  clear ha hb la lb
  go_enter Tryz.func90, Tryz.ntmps90
  go_wp2_with fail
  have L := ((Lq.mk0 w).varD (w.heap.size) (by simp) false none 0 0 0)
  have c00 := L.b0.c30
  have f00 := L.b0.fr 0
  have c01 := L.b0.c31
  have f01 := L.b0.fr 1
  have c02 := L.b0.c32
  have f02 := L.b0.fr 2
  (try go_wp2_with fail)
  refine (HA.out _).mono ?_
  rintro e w1 ⟨v1, rfl, iz, be⟩
  clear c00 f00 c01 f01 c02 f02
  replace L := (L.step be).z iz
  obtain ⟨A1, c1, rfl, _⟩ := iz.form
  clear be iz
  have hlt := L.b0.lt
  have c00 := L.b0.c30
  have f00 := L.b0.fr 0
  have c01 := L.b0.c31
  have f01 := L.b0.fr 1
  have c02 := L.b0.c32
  have f02 := L.b0.fr 2
  have LP0 := L.putD (by omega) (by first | (simp; done) | (simp; omega)) false none 0 0 0
  replace L := L.varZ w1.heap.size rfl (ng M) A1 (zl M) c1
  by_cases q1 : E1 = 0
  · subst q1
    clear LP0
    go_wp2_with fail
    refine (HB.out _).mono ?_
    rintro e w2 ⟨v2, rfl, iz, be⟩
    clear c00 f00 c01 f01 c02 f02
    replace L := (L.step be).z iz
    obtain ⟨A2, c2, rfl, _⟩ := iz.form
    clear be iz
    have hlt2 := L.b0.lt
    have hlt3 := L.tl.b0.lt
    have c00 := L.b0.c20
    have f00 := L.b0.fr 0
    have c01 := L.b0.c21
    have f01 := L.b0.fr 1
    have c10 := L.tl.b0.c30
    have f10 := L.tl.b0.fr 0
    have c11 := L.tl.b0.c31
    have f11 := L.tl.b0.fr 1
    have c12 := L.tl.b0.c32
    have f12 := L.tl.b0.fr 2
    have LP0 := L.swap.putD (by omega) (by first | (simp; done) | (simp; omega)) false none 0 0 0
    replace L := L.varZ w2.heap.size rfl (ng X) A2 (zl X) c2
    by_cases q2 : E2 = 0
    · subst q2
      clear LP0
      obtain ⟨rfl, rfl, rfl⟩ := HF.1 (by simp)
      clear c00 f00 c01 f01 c10 f10 c11 f11 c12 f12
      have c00 := L.b0.c20
      have f00 := L.b0.fr 0
      have c01 := L.b0.c21
      have f01 := L.b0.fr 1
      have c10 := L.tl.b0.c20
      have c11 := L.tl.b0.c21
      have c20 := L.tl.tl.b0.c30
      have c21 := L.tl.tl.b0.c31
      have c22 := L.tl.tl.b0.c32
      go_wp2_with fail
      refine (HI.out _ _ (L.getZ (by simp))).mono ?_
      rintro e w3 ⟨rfl, be⟩
      clear c00 f00 c01 f01 c10 c11 c20 c21 c22
      replace L := L.step be
      clear be
      have c00 := L.b0.c20
      have f00 := L.b0.fr 0
      have c01 := L.b0.c21
      have f01 := L.b0.fr 1
      have c10 := L.tl.b0.c20
      have f10 := L.tl.b0.fr 0
      have c11 := L.tl.b0.c21
      have f11 := L.tl.b0.fr 1
      have c20 := L.tl.tl.b0.c30
      have f20 := L.tl.tl.b0.fr 0
      have c21 := L.tl.tl.b0.c31
      have f21 := L.tl.tl.b0.fr 1
      have c22 := L.tl.tl.b0.c32
      have f22 := L.tl.tl.b0.fr 2
      go_wp2_with fail
      replace L := L.pull2
      have LP := L.putD (by omega) (by first | (simp; done) | (simp; omega)) (ng M2) A1 (zl M2) c1 (N2)
      have k0 := LP.b0.c30
      have k1 := LP.b0.c31
      have k2 := LP.b0.c32
      unfold put3 at k0 k1 k2
      exact bodyPost_ret (v := .tuple #[.agg #[.bool (ng M2), .slice A1 (zl M2) c1, .int .i64 (N2)], .bool R]) (by simp [results, Tryz.results90, go_sem, k0, k1, k2]) rfl ⟨_, rfl, isD_z (LP.getZ (by simp)), LP.below⟩
    · have q3 : (E2 != 0) = true := by simpa using q2
      have q1 := q2
      obtain ⟨rfl, rfl, rfl⟩ := HF.2 (by simp [q1])
      go_wp2_with fail
      have LP := LP0.varZ _ rfl (ng X) A2 (zl X) c2
      have k0 := LP.tl.b0.c30
      have k1 := LP.tl.b0.c31
      have k2 := LP.tl.b0.c32
      unfold put3 at k0 k1 k2
      exact bodyPost_ret (v := .tuple #[.agg #[.bool false, .slice none 0 0, .int .i64 0], .bool false]) (by simp [results, Tryz.results90, go_sem, k0, k1, k2]) rfl ⟨_, rfl, isD_zero _, LP.below⟩
  · have q3 : (E1 != 0) = true := by simpa using q1
    obtain ⟨rfl, rfl, rfl⟩ := HF.2 (by simp [q1])
    go_wp2_with fail
    have LP := LP0.varZ _ rfl (ng M) A1 (zl M) c1
    have k0 := LP.tl.b0.c30
    have k1 := LP.tl.b0.c31
    have k2 := LP.tl.b0.c32
    unfold put3 at k0 k1 k2
    exact bodyPost_ret (v := .tuple #[.agg #[.bool false, .slice none 0 0, .int .i64 0], .bool false]) (by simp [results, Tryz.results90, go_sem, k0, k1, k2]) rfl ⟨_, rfl, isD_zero _, LP.below⟩
set_option maxHeartbeats 4000000 in
theorem dparse_any (l : List Nat) (w : World) (hb : Byt l) (hl : l.length ≤ 1000000) :
    Calls Tryz.prog 46 #[.string (str l)] w (RetDE w (valM8 l) (valE8 l) (errD8 l)) := by
  by_cases hlen : 20010 < l.length
  · obtain ⟨e1, e2, e3⟩ := err8_long hlen
    rw [e1, e2, e3]
    have hsz := str_size l
    obtain ⟨n, hn⟩ : ∃ n, l.length = n := ⟨_, rfl⟩
    rw [hn] at hsz hl hlen
    have hd : decide ((20010 : Int) < (n : Int)) = true := decide_eq_true (by omega)
    generalize str l = s at *
    clear hn hlen hb e1 e2 e3
    go_enter Tryz.func46, Tryz.ntmps46
    go_wp2_with fail
    have L := ((Lq.mk0 w).varD (w.heap.size) (by simp) false none 0 0 0)
    have c00 := L.b0.c30
    have f00 := L.b0.fr 0
    have c01 := L.b0.c31
    have f01 := L.b0.fr 1
    have c02 := L.b0.c32
    have f02 := L.b0.fr 2
    (try go_wp2_with fail)
    exact bodyPost_ret (v := .tuple #[.agg #[.bool false, .slice none 0 0, .int .i64 0], .int .i64 7]) (by simp [results, Tryz.results46, go_sem, c00, c01, c02]) rfl ⟨_, rfl, isD_zero _, L.below⟩
  · have HC := Lib.hid (fun W => cut8_any l W hb hl)
    have lha := hd8_len l
    have lhb := tl8_len l
    have HR := Lib.hid (fun W => read_any (hd8 l) (tl8 l) W (hd8_byt hb) (tl8_byt hb) (by omega) (by omega))
    have hza : zl (rdM (hd8 l) (tl8 l)) ≤ 1000000 := by
      unfold rdM
      split
      · exact Nat.le_trans (zl_parse8 (n := 1000000) (by omega)) (Nat.le_refl _)
      · rw [zl_zero]; omega
    have HV := Lib.hid (fun W v h => dvalid_d (rdM (hd8 l) (tl8 l)) (rdE (hd8 l) (tl8 l)) v W h hza)
    rw [show (if rdM (hd8 l) (tl8 l) = 0 then decide (rdE (hd8 l) (tl8 l) = 0) else fits8 (rdM (hd8 l) (tl8 l)) (rdE (hd8 l) (tl8 l))) = vd8 (rdM (hd8 l) (tl8 l)) (rdE (hd8 l) (tl8 l)) from rfl] at HV
    have ho := (ok8_all l).trans (okD8_rd (hd8 l) (tl8 l))
    have HF : (ok8 l = true → errD8 l = 0 ∧ valM8 l = rdM (hd8 l) (tl8 l) ∧ valE8 l = rdE (hd8 l) (tl8 l)) ∧ (ok8 l = false → errD8 l = 6 ∧ valM8 l = 0 ∧ valE8 l = 0) := by
      refine ⟨fun h => ?_, fun h => err8_bad hlen h⟩
      obtain ⟨e1, e2, e3⟩ := err8_good hlen h
      have h4 : rdO (hd8 l) (tl8 l) = true := by
        rw [ho] at h
        have h5 := (Bool.and_eq_true _ _ ▸ h : rdB (hd8 l) (tl8 l) = true ∧ _).1
        unfold rdB at h5
        exact (Bool.and_eq_true _ _ ▸ h5 : rdO (hd8 l) (tl8 l) = true ∧ _).1
      refine ⟨e1, ?_, ?_⟩
      · rw [e2]; unfold rdM; rw [if_pos h4]
      · rw [e3]; unfold rdE; rw [if_pos h4]
    rw [ho] at HF
    clear ho hza lha lhb
    generalize vd8 (rdM (hd8 l) (tl8 l)) (rdE (hd8 l) (tl8 l)) = vd at *
    generalize rdB (hd8 l) (tl8 l) = rb at *
    generalize rdM (hd8 l) (tl8 l) = M at *
    generalize rdE (hd8 l) (tl8 l) = N at *
    generalize decide (112 ∈ l) = hp at *
    generalize errD8 l = R at *
    generalize valM8 l = M2 at *
    generalize valE8 l = N2 at *
    generalize str (hd8 l) = sa at *
    generalize str (tl8 l) = sb at *
    have hsz := str_size l
    obtain ⟨n, hn⟩ : ∃ n, l.length = n := ⟨_, rfl⟩
    rw [hn] at hsz hl hlen
    have hd : decide ((20010 : Int) < (n : Int)) = false := decide_eq_false (by omega)
    generalize str l = s at *
    clear hn hlen hb
    go_enter Tryz.func46, Tryz.ntmps46
    go_wp2_with fail
    have L := ((Lq.mk0 w).varD (w.heap.size) (by simp) false none 0 0 0)
    have c00 := L.b0.c30
    have f00 := L.b0.fr 0
    have c01 := L.b0.c31
    have f01 := L.b0.fr 1
    have c02 := L.b0.c32
    have f02 := L.b0.fr 2
    (try go_wp2_with fail)
    refine (HC.out _).mono ?_
    rintro e w1 ⟨rfl, be⟩
    clear c00 f00 c01 f01 c02 f02
    replace L := L.step be
    clear be
    have c00 := L.b0.c30
    have f00 := L.b0.fr 0
    have c01 := L.b0.c31
    have f01 := L.b0.fr 1
    have c02 := L.b0.c32
    have f02 := L.b0.fr 2
    (try go_wp2_with fail)
    refine (HR.out _).mono ?_
    rintro e w2 ⟨v2, rfl, id, be⟩
    clear c00 f00 c01 f01 c02 f02
    obtain ⟨A9, c9, rfl, _, in9⟩ := id.form
    replace L := (L.step be).n in9
    clear be in9 id
    have hlt := L.b0.lt
    have c00 := L.b0.c30
    have f00 := L.b0.fr 0
    have c01 := L.b0.c31
    have f01 := L.b0.fr 1
    have c02 := L.b0.c32
    have f02 := L.b0.fr 2
    have LP0 := L.putD (by omega) (by first | (simp; done) | (simp; omega)) false none 0 0 0
    replace L := L.varD w2.heap.size rfl (ng M) A9 (zl M) c9 N
    cases rb
    · obtain ⟨rfl, rfl, rfl⟩ := HF.2 (by simp)
      go_wp2_with fail
      have LP := LP0.varD _ rfl (ng M) A9 (zl M) c9 N
      have k0 := LP.tl.b0.c30
      have k1 := LP.tl.b0.c31
      have k2 := LP.tl.b0.c32
      unfold put3 at k0 k1 k2
      exact bodyPost_ret (v := .tuple #[.agg #[.bool false, .slice none 0 0, .int .i64 0], .int .i64 6]) (by simp [results, Tryz.results46, go_sem, k0, k1, k2]) rfl ⟨_, rfl, isD_zero _, LP.below⟩
    · clear LP0
      clear c00 f00 c01 f01 c02 f02
      have c00 := L.b0.c30
      have f00 := L.b0.fr 0
      have c01 := L.b0.c31
      have f01 := L.b0.fr 1
      have c02 := L.b0.c32
      have f02 := L.b0.fr 2
      have c10 := L.tl.b0.c30
      have f10 := L.tl.b0.fr 0
      have c11 := L.tl.b0.c31
      have f11 := L.tl.b0.fr 1
      have c12 := L.tl.b0.c32
      have f12 := L.tl.b0.fr 2
      go_wp2_with fail
      refine (HV.out _ _ (isD_n L.hn)).mono ?_
      rintro e w3 ⟨rfl, be⟩
      clear c00 f00 c01 f01 c02 f02 c10 f10 c11 f11 c12 f12
      replace L := L.step be
      clear be
      have c00 := L.b0.c30
      have f00 := L.b0.fr 0
      have c01 := L.b0.c31
      have f01 := L.b0.fr 1
      have c02 := L.b0.c32
      have f02 := L.b0.fr 2
      have c10 := L.tl.b0.c30
      have f10 := L.tl.b0.fr 0
      have c11 := L.tl.b0.c31
      have f11 := L.tl.b0.fr 1
      have c12 := L.tl.b0.c32
      have f12 := L.tl.b0.fr 2
      cases vd
      · obtain ⟨rfl, rfl, rfl⟩ := HF.2 (by simp)
        go_wp2_with fail
        have LP := L.swap.putD (by omega) (by first | (simp; done) | (simp; omega)) false none (0) 0 (0)
        have k0 := LP.b0.c30
        have k1 := LP.b0.c31
        have k2 := LP.b0.c32
        unfold put3 at k0 k1 k2
        exact bodyPost_ret (v := .tuple #[.agg #[.bool false, .slice none (0) 0, .int .i64 (0)], .int .i64 6]) (by simp [results, Tryz.results46, go_sem, k0, k1, k2]) rfl ⟨_, rfl, isD_zero _, LP.below⟩
      · obtain ⟨rfl, rfl, rfl⟩ := HF.1 (by simp)
        go_wp2_with fail
        have LP := L.swap.putD (by omega) (by first | (simp; done) | (simp; omega)) (ng M2) A9 (zl M2) c9 (N2)
        have k0 := LP.b0.c30
        have k1 := LP.b0.c31
        have k2 := LP.b0.c32
        unfold put3 at k0 k1 k2
        exact bodyPost_ret (v := .tuple #[.agg #[.bool (ng M2), .slice A9 (zl M2) c9, .int .i64 (N2)], .int .i64 0]) (by simp [results, Tryz.results46, go_sem, k0, k1, k2]) rfl ⟨_, rfl, isD_n LP.hn, LP.below⟩

end Go.Proofs.YtpgiolbnmlbjbaaGreatDoor
