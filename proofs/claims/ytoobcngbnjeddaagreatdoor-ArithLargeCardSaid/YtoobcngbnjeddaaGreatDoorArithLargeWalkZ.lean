/- The walk of ArithLarge: whatever the input, the law returns true and turns nothing that was there. -/
import Derived.Test.YtoobcngbnjeddaaGreatDoorAwake11Z
import Derived.Test.YtoobcngbnjeddaaGreatDoorBaseE
import Derived.Test.YtoobcngbnjeddaaGreatDoorRefArAddZ
import Derived.Test.YtoobcngbnjeddaaGreatDoorRefArMuZ
import Derived.Test.YtoobcngbnjeddaaGreatDoorBaseWZ
import Derived.Test.YtoobcngbnjeddaaGreatDoorBaseXZ
import Derived.Test.YtoobcngbnjeddaaGreatDoorBaseZZ
import Derived.Test.YtoobcngbnjeddaaGreatDoorArPEZ
import Derived.Deep.RegionHeld3
import Derived.Deep.DrawnRows
import Derived.Deep.Cut
import Derived.Deep.CutRange
namespace Go.Proofs.YtoobcngbnjeddaaGreatDoor
open Go.RowKit
set_option linter.unusedVariables false
set_option linter.unusedSimpArgs false
set_option maxRecDepth 100000
attribute [local go_sem ↓] Go.wp_at_zero Go.wp_at_succ

theorem dv_e {m e : Int} (h : Dv m e) : -70000 ≤ e ∧ e ≤ 70000 := by
  rcases h with ⟨_, h⟩ | ⟨_, h⟩
  · omega
  · unfold fits8 at h
    simp only [Bool.and_eq_true, decide_eq_true_eq] at h
    omega
theorem top_small {m e : Int} (lm : zl m ≤ 4) (h1 : -20 ≤ e) (h2 : e ≤ 148) : -20 ≤ topZ m e ∧ topZ m e ≤ 276 := by
  unfold topZ
  have h := blen_le_len m.natAbs
  have hz : zl m = len m.natAbs := rfl
  split <;> omega

set_option maxHeartbeats 64000000 in
theorem walk_ArithLarge (b0 : Bool) (a0 : Option Addr) (len0 cap0 : Nat) (z0 : List Nat) (f0 : Int) (bb0 : Bool) (aa0 : Option Addr) (ll0 cc0 : Nat) (zz0 : List Nat) (ff0 : Int) (b1 : Bool) (a1 : Option Addr) (len1 cap1 : Nat) (z1 : List Nat) (f1 : Int) (a2 : Int) (a3 : Int) (w : World) (h0 : Sl w a0 len0 cap0 z0 ∧ -9223372036854775808 ≤ f0 ∧ f0 ≤ 9223372036854775807) (k0 : Sl w aa0 ll0 cc0 zz0 ∧ -9223372036854775808 ≤ ff0 ∧ ff0 ≤ 9223372036854775807) (h1 : Sl w a1 len1 cap1 z1) (u1 : -9223372036854775808 ≤ f1) (t1 : f1 ≤ 9223372036854775807) (h2 : -9223372036854775808 ≤ a2 ∧ a2 ≤ 9223372036854775807) (h3 : -9223372036854775808 ≤ a3 ∧ a3 ≤ 9223372036854775807) (hT : Tab w) :
    Calls Tryz.prog 8 #[.agg #[.bool b0, .slice a0 len0 cap0, .int .i64 f0, .bool bb0, .slice aa0 ll0 cc0, .int .i64 ff0], .agg #[.bool b1, .slice a1 len1 cap1, .int .i64 f1], .int .i64 a2, .int .i64 a3] w (fun e w' => e = .returned (.bool true) ∧ Below w.heap.size w w') := by
  have HT := Lib.hid (fun W (hW : Below w.heap.size w W) => hT.mono hW)
  clear hT
  go_enter Tryz.func8, Tryz.ntmps8
  go_wp2_with fail
  have L := (((Lq.mk0 w).varI (w.heap.size) (by simp) b0 a0 len0 cap0 f0 bb0 aa0 ll0 cc0 ff0).varD (w.heap.size + 1) (by simp) b1 a1 len1 cap1 f1)
  (try go_wp2_with fail)
  refine (awake11_any _ (HT.out _ L.below)).mono ?_
  rintro e9 w1 ⟨rfl, be⟩
  replace L := L.step be
  clear be
  have c00 := L.b0.c30
  have c01 := L.b0.c31
  have c02 := L.b0.c32
  have c10 := L.tl.b0.c60
  have c11 := L.tl.b0.c61
  have c12 := L.tl.b0.c62
  have c13 := L.tl.b0.c63
  have c14 := L.tl.b0.c64
  have c15 := L.tl.b0.c65
  (try go_wp2_with fail)
  refine (millD_any b1 z1 3 20 a1 len1 cap1 f1 _ (h1.mono L.below) (by omega) (by omega) u1 t1).mono ?_
  rintro e w2 ⟨v1, ok, m, e, rfl, id, lm, he1, he2, dvm, be⟩
  clear c00 c01 c02 c10 c11 c12 c13 c14 c15
  obtain ⟨A, c, rfl, _, in9⟩ := id.form
  replace L := (L.step be).n in9
  clear be id in9
  have hlg := L.b0.lt
  replace L := L.varD w2.heap.size rfl (ng m) A (zl m) c e
  cases ok
  · go_wp2_with fail
    go_ret
    exact ⟨rfl, L.below⟩
  clear dvm
  by_cases q1 : 20 < len0
  · have b1 : decide ((20 : Int) < (len0 : Int)) = true := decide_eq_true (by omega)
    have cel20 := L.tl.tl.b0.c60
    have cel21 := L.tl.tl.b0.c61
    have cel22 := L.tl.tl.b0.c62
    have cel23 := L.tl.tl.b0.c63
    have cel24 := L.tl.tl.b0.c64
    have cel25 := L.tl.tl.b0.c65
    go_wp2_with fail
    go_ret
    exact ⟨rfl, L.below⟩
  have b1 : decide ((20 : Int) < (len0 : Int)) = false := decide_eq_false (by omega)
  by_cases q2 : 20 < ll0
  · have b2 : decide ((20 : Int) < (ll0 : Int)) = true := decide_eq_true (by omega)
    have cel20 := L.tl.tl.b0.c60
    have cel21 := L.tl.tl.b0.c61
    have cel22 := L.tl.tl.b0.c62
    have cel23 := L.tl.tl.b0.c63
    have cel24 := L.tl.tl.b0.c64
    have cel25 := L.tl.tl.b0.c65
    go_wp2_with fail
    go_ret
    exact ⟨rfl, L.below⟩
  have b2 : decide ((20 : Int) < (ll0 : Int)) = false := decide_eq_false (by omega)
  have cel20 := L.tl.tl.b0.c60
  have cel21 := L.tl.tl.b0.c61
  have cel22 := L.tl.tl.b0.c62
  have cel23 := L.tl.tl.b0.c63
  have cel24 := L.tl.tl.b0.c64
  have cel25 := L.tl.tl.b0.c65
  (try go_wp2_with fail)
  clear cel20 cel21 cel22 cel23 cel24 cel25
  obtain ⟨g, hg⟩ : ∃ g, w2.heap.size = g := ⟨_, rfl⟩
  rw [hg] at L hlg ⊢
  clear hg
  clear b1 b2
  obtain ⟨T1, T2⟩ := top_small (m := m) (e := e) (by omega) (by omega) (by omega)
  have tp := fun v W h => rtop_any m e v W h (by omega) (by omega)
  obtain ⟨T, hT9⟩ : ∃ z, topZ m e = z := ⟨_, rfl⟩
  rw [hT9] at T1 T2 tp
  obtain ⟨ra, hra⟩ : ∃ r : Nat, a2 % 5 = (r : Int) := ⟨(a2 % 5).toNat, by omega⟩
  have o1 := fun W => mod_any a2 5 W (by omega) (by omega) h2.1 h2.2
  rw [hra] at o1
  obtain ⟨rb, hrb⟩ : ∃ r : Nat, a3 % 50 = (r : Int) := ⟨(a3 % 50).toNat, by omega⟩
  have o2 := fun W => mod_any a3 50 W (by omega) (by omega) h3.1 h3.2
  rw [hrb] at o2
  have bra : ra < 5 := by omega
  have brb : rb < 50 := by omega
  obtain ⟨j1, hj1⟩ : ∃ z, 2048 - T = z := ⟨_, rfl⟩
  obtain ⟨j2, hj2⟩ : ∃ z, j1 - 2 = z := ⟨_, rfl⟩
  obtain ⟨k, hk⟩ : ∃ z, j2 + (ra : Int) = z := ⟨_, rfl⟩
  have ww1 : IntKind.i64.wrap (2048 - T) = j1 := by rw [IntKind.wrap_i64]; omega
  have ww2 : IntKind.i64.wrap (j1 - 2) = j2 := by rw [IntKind.wrap_i64]; omega
  have ww3 : IntKind.i64.wrap (j2 + (ra : Int)) = k := by rw [IntKind.wrap_i64]; omega
  have kb : 1700 ≤ k ∧ k ≤ 2100 := by omega
  have r0 := mk_fits (m := m) (e := e + k) (by omega) (by omega) (by omega)
  have sf := fun v W h => rshift8_any m e k v W h (by omega) (by omega) (by omega)
  rw [r0] at sf
  have zM := zl_mk m (e + k)
  have bE := mkE_le (m := m) (e := e + k) (K := 2400) (by omega) (by omega)
  have dv : Dv (mkM m (e + k)) (mkE m (e + k)) := mk_ok r0
  obtain ⟨M, hM⟩ : ∃ z, mkM m (e + k) = z := ⟨_, rfl⟩
  obtain ⟨E, hE⟩ : ∃ z, mkE m (e + k) = z := ⟨_, rfl⟩
  rw [hM, hE] at sf dv
  rw [hM] at zM
  rw [hE] at bE
  have lM : zl M ≤ 25 := by omega
  have lE : -3000 ≤ E ∧ E ≤ 3000 := by omega
  have le1 : dcm M E M E ≤ 0 := (dcm_le _ _ _ _).2 Rat.le_refl
  obtain ⟨SB, hSB⟩ : ∃ b, smallB M E M E = b := ⟨_, rfl⟩
  have sa := fun v W h => asmall_any M E M E v W h (by omega) (by omega) (by omega) (by omega) dv dv
  have sr := fun v W h => rsmall11_any M E M E v W h (by omega) (by omega) (by omega) (by omega) dv dv
  rw [hSB] at sa sr
  have TP := Lib.hid tp
  have MO1 := Lib.hid o1
  have MO2 := Lib.hid o2
  have SF := Lib.hid sf
  have SA := Lib.hid sa
  have SR := Lib.hid sr
  have hga : w.heap.size ≤ g := by omega
  obtain ⟨M1, E1, N1, G1, r1, fx1, ⟨zm1, ze1⟩, ⟨zn1, zg1⟩, j9a, j9b⟩ := RetEn.fix (dq M E + dq M E) (dq M E + dq M E) (rb : Int)
  clear j9a j9b
  obtain ⟨M2, E2, N2, G2, r2, fx2, ⟨zm2, ze2⟩, ⟨zn2, zg2⟩, j9a, j9b⟩ := RetEn.fix (min4 (dq M E * dq M E) (dq M E * dq M E) (dq M E * dq M E) (dq M E * dq M E)) (max4 (dq M E * dq M E) (dq M E * dq M E) (dq M E * dq M E) (dq M E * dq M E)) (rb : Int)
  clear j9a j9b
  have p1 := fun v u W h1 h2 (hW : Below w.heap.size w W) => aadd_any M E M E M E M E (rb : Int) v u W h1 h2 lM lM lM lM lE lE lE lE le1 le1 (by omega) (by omega) (HT.out W hW)
  have q1' := fun v u W h1 h2 => r11add_any M E M E M E M E (rb : Int) v u W h1 h2 lM lM lM lM lE lE lE lE le1 le1 (by omega) (by omega)
  have p2 := fun v u W h1 h2 (hW : Below w.heap.size w W) => amul_any M E M E M E M E (rb : Int) v u W h1 h2 lM lM lM lM lE lE lE lE le1 le1 (by omega) (by omega) (HT.out W hW)
  have q2' := fun v u W h1 h2 => r11mul_any M E M E M E M E (rb : Int) v u W h1 h2 lM lM lM lM lE lE lE lE (by omega) (by omega)
  simp only [fx1] at p1 q1'
  simp only [fx2] at p2 q2'
  have P1 := Lib.hid p1
  have Q1 := Lib.hid q1'
  have S1 := Lib.hid (fun v u W h1 h2 => (show Calls Tryz.prog 20 #[v, u] W (RetB W true) from by have s := r10same_any M1 E1 N1 G1 M1 E1 N1 G1 v u W h1 h2 (by omega) (by omega) (by omega) (by omega) (by omega) (by omega) (by omega) (by omega); rwa [show ((decide ((E1 : Int) = E1) && decide ((M1 : Int) = M1)) && (decide ((G1 : Int) = G1) && decide ((N1 : Int) = N1))) = true from by simp] at s))
  have eq1 : (r1 == r1) = true := by simp
  clear p1 q1' fx1 zm1 ze1 zn1 zg1
  have P2 := Lib.hid p2
  have Q2 := Lib.hid q2'
  have S2 := Lib.hid (fun v u W h1 h2 => (show Calls Tryz.prog 20 #[v, u] W (RetB W true) from by have s := r10same_any M2 E2 N2 G2 M2 E2 N2 G2 v u W h1 h2 (by omega) (by omega) (by omega) (by omega) (by omega) (by omega) (by omega) (by omega); rwa [show ((decide ((E2 : Int) = E2) && decide ((M2 : Int) = M2)) && (decide ((G2 : Int) = G2) && decide ((N2 : Int) = N2))) = true from by simp] at s))
  have eq2 : (r2 == r2) = true := by simp
  clear p2 q2' fx2 zm2 ze2 zn2 zg2
  clear tp o1 o2 sf sa sr hT9 hra hrb hj1 hj2 hk hM hE hSB r0 zM bE dv lM lE le1 T1 T2 kb lm he1 he2 bra brb
  have LD := L.drew
  have cel00 := L.b0.c30
  have f00 := L.b0.fr 0
  have cel01 := L.b0.c31
  have f01 := L.b0.fr 1
  have cel02 := L.b0.c32
  have f02 := L.b0.fr 2
  go_cut [56] from 45 to 56 (fun s56 wx => s56 = .int .i64 0 ∧ ∃ A9 c9, Lq w wx [(.slice A9 (zl M) c9, M.natAbs)] [] [] [(g, 26, #[.bool (ng M), .slice A9 (zl M) c9, .int .i64 E]), (w.heap.size, 28, #[.bool b0, .slice a0 len0 cap0, .int .i64 f0, .bool bb0, .slice aa0 ll0 cc0, .int .i64 ff0])])
  case first =>
    go_region_with (first | (go_at_call 38; (with_reducible refine (TP.out _ _ ?_).mono ?_); (· (refine isD_n (LD.getN ?_); (repeat (first | (with_reducible exact List.mem_cons_self) | apply List.mem_cons_of_mem)))); rintro e9 wh ⟨rfl, be⟩; replace LD := LD.step be; clear be; (try (have r0 := LD.b0.c30; have r1 := LD.b0.c31; have r2 := LD.b0.c32; have s0 := LD.b0.fr 0; have s1 := LD.b0.fr 1; have s2 := LD.b0.fr 2))) | (go_at_call 29; (with_reducible refine (MO1.out _).mono ?_); rintro e9 wh ⟨rfl, rfl⟩) | (go_at_call 37; (with_reducible refine (SF.out _ _ ?_).mono ?_); (· (refine isD_n (LD.getN ?_); (repeat (first | (with_reducible exact List.mem_cons_self) | apply List.mem_cons_of_mem)))); rintro e9 wh ⟨vh, rfl, id, be⟩; obtain ⟨A9, c9, rfl, _, in9⟩ := id.form; replace LD := (LD.step be).n in9; clear be id in9; (try (have r0 := LD.b0.c30; have r1 := LD.b0.c31; have r2 := LD.b0.c32; have s0 := LD.b0.fr 0; have s1 := LD.b0.fr 1; have s2 := LD.b0.fr 2))))
    all_goals
      have LP := LD.putD hga (by first | (simp; done) | (simp; omega)) (ng M) A9 (zl M) c9 E
      unfold put3 at LP
      go_wp2_with fail
      go_meet
      exact ⟨rfl, _, _, ((((Lq.mk0 w).step LP.below).n (LP.getN (v := .slice A9 (zl M) c9) (x := M.natAbs) (by simp))).b LP.tl.tl.b0).b LP.b0⟩
  case rest =>
    clear L LD cel00 f00 cel01 f01 cel02 f02
    obtain ⟨rfl, AM, cM, L⟩ := hcut
    generalize wc = wd at *
    clear ww1 ww2 ww3 TP MO1 SF
    have cel00 := L.b0.c30
    have cel01 := L.b0.c31
    have cel02 := L.b0.c32
    (try go_wp2_with fail)
    clear cel00 cel01 cel02
    have hlx := L.b0.lt
    replace L := L.varI wd.heap.size rfl (ng M) AM (zl M) cM E (ng M) AM (zl M) cM E
    obtain ⟨gx, hg⟩ : ∃ g, wd.heap.size = g := ⟨_, rfl⟩
    rw [hg] at L hlx ⊢
    clear hg
    obtain ⟨V, hV, L9⟩ := L.name
    rw [hV]
    clear hV L
    have L := L9
    clear L9
    have hwV := L.below
    have hws := hwV.size
    have hb7 := h0.1.mono hwV
    have hb8 := k0.1.mono hwV
    have RRW := Lib.hid (fun W (hW : Below V.heap.size V W) => r10raw_any b0 bb0 z0 zz0 a0 aa0 len0 cap0 ll0 cc0 f0 ff0 W (hb7.mono hW) (hb8.mono hW) (by omega) (by omega))
    obtain ⟨vr, hvr⟩ : ∃ b, (dval b0 z0 f0 && (dval bb0 zz0 ff0 && decide (dcm (sg b0 (val z0)) f0 (sg bb0 (val zz0)) ff0 ≤ 0))) = b := ⟨_, rfl⟩
    rw [hvr] at RRW
    have HVR := Lib.hid hvr
    have LV := Lib.hid L
    clear hvr hwV hws
    go_cut [75] from 60 to 75 (fun s75 wx => s75 = .bool false ∧ Below V.heap.size V wx)
    case first =>
      have BX := L.b0
      have BR := L.tl.tl.b0
      have iM : IsN V (.slice AM (zl M) cM) M.natAbs := L.getN (by simp)
      clear L LV P1 P2 Q1 Q2 S1 S2 eq1 eq2 MO2
      cases vr
      · have L : Lq V V [(.slice AM (zl M) cM, M.natAbs)] [] [] [(w.heap.size, 28, #[.bool b0, .slice a0 len0 cap0, .int .i64 f0, .bool bb0, .slice aa0 ll0 cc0, .int .i64 ff0]), (gx, 28, #[.bool (ng M), .slice AM (zl M) cM, .int .i64 E, .bool (ng M), .slice AM (zl M) cM, .int .i64 E])] := (((Lq.mk0 V).n iM).b BX).b BR
        clear BX BR HVR hb7 hb8 iM
        cases SB
        · skip
          replace L := L.drew
          have cel00 := L.b0.c60
          have cel01 := L.b0.c61
          have cel02 := L.b0.c62
          have cel03 := L.b0.c63
          have cel04 := L.b0.c64
          have cel05 := L.b0.c65
          have cel10 := L.tl.b0.c60
          have cel11 := L.tl.b0.c61
          have cel12 := L.tl.b0.c62
          have cel13 := L.tl.b0.c63
          have cel14 := L.tl.b0.c64
          have cel15 := L.tl.b0.c65
          refine wp_region_noPanic ?_
          refine wp_region_held_drew (S := fun w' => w'.cell? ⟨w.heap.size, 0, none⟩ = some (.bool b0) ∧ w'.cell? ⟨w.heap.size, 1, none⟩ = some (.slice a0 len0 cap0) ∧ w'.cell? ⟨w.heap.size, 2, none⟩ = some (.int .i64 f0) ∧ w'.cell? ⟨w.heap.size, 3, none⟩ = some (.bool bb0) ∧ w'.cell? ⟨w.heap.size, 4, none⟩ = some (.slice aa0 ll0 cc0) ∧ w'.cell? ⟨w.heap.size, 5, none⟩ = some (.int .i64 ff0) ∧ w'.cell? ⟨gx, 0, none⟩ = some ((.bool (ng M))) ∧ w'.cell? ⟨gx, 1, none⟩ = some (.slice AM (zl M) cM) ∧ w'.cell? ⟨gx, 2, none⟩ = some (.int .i64 E) ∧ w'.cell? ⟨gx, 3, none⟩ = some (.bool (ng M)) ∧ w'.cell? ⟨gx, 4, none⟩ = some (.slice AM (zl M) cM) ∧ w'.cell? ⟨gx, 5, none⟩ = some (.int .i64 E)) (by kernel_rfl) ?rgsqnfx (fun hHeld => ?rgrqnfx)
          case rgsqnfx => exact ⟨L.b0.c60, L.b0.c61, L.b0.c62, L.b0.c63, L.b0.c64, L.b0.c65, L.tl.b0.c60, L.tl.b0.c61, L.tl.b0.c62, L.tl.b0.c63, L.tl.b0.c64, L.tl.b0.c65⟩
          case rgrqnfx =>
            refine wpAnyH_take (i := 0) (oi := { dst := some 60, op := _, type := _, pos := _, after := _, guard := _ }) (v := ?vqnfx0) rfl (by kernel_rfl) (by kernel_rfl) (by kernel_rfl) (fun _ _ _ h => h) (Or.inl ⟨by rfl, ?hyqnfx0⟩) (by assumption) ?restqnfx0
            case hyqnfx0 => (intro w hSw; (try dsimp only at hSw); go_simp; (try with_reducible rfl))
            case restqnfx0 =>
              (try simp only [Act.put, List.setIfInBounds_toArray, List.set_cons_zero, List.set_cons_succ])
              refine wpAnyH_take (i := 2) (oi := { dst := some 62, op := _, type := _, pos := _, after := _, guard := _ }) (v := ?vqnfx2) rfl (by kernel_rfl) (by kernel_rfl) (by kernel_rfl) (fun _ _ _ h => h) (Or.inl ⟨by rfl, ?hyqnfx2⟩) (by assumption) ?restqnfx2
              case hyqnfx2 => (intro w hSw; (try dsimp only at hSw); go_simp; (try with_reducible rfl))
              case restqnfx2 =>
                (try simp only [Act.put, List.setIfInBounds_toArray, List.set_cons_zero, List.set_cons_succ])
                refine wpAnyH_ready (rs := [1]) (by kernel_rfl) (by simp) ?_
                refine AllReadyH.cons rfl (fun K hK => ?_) AllReadyH.nil
                go_simp
                go_at_call 39
                refine (SA.out _ _ ?_ ).mono ?_
                · (refine isI_n (L.getN ?_) (L.getN ?_) <;> (repeat (first | (with_reducible exact List.mem_cons_self) | apply List.mem_cons_of_mem)))
                rintro e wh ⟨rfl, be⟩
                replace L := L.step be
                clear be
                go_wp2_with fail
                refine hK.out _ _ (by first | (with_reducible exact ⟨L.b0.c60, L.b0.c61, L.b0.c62, L.b0.c63, L.b0.c64, L.b0.c65, L.tl.b0.c60, L.tl.b0.c61, L.tl.b0.c62, L.tl.b0.c63, L.tl.b0.c64, L.tl.b0.c65⟩) | exact ⟨L.b0.c60, L.b0.c61, L.b0.c62, L.b0.c63, L.b0.c64, L.b0.c65, L.tl.b0.c60, L.tl.b0.c61, L.tl.b0.c62, L.tl.b0.c63, L.tl.b0.c64, L.tl.b0.c65⟩) (fun hHeld2 => ?_)
                clear hK K hHeld
                have hHeld := hHeld2
                clear hHeld2
                (try simp only [Act.put, List.setIfInBounds_toArray, List.set_cons_zero, List.set_cons_succ])
                refine wpAnyH_ready (rs := [3]) (by kernel_rfl) (by simp) ?_
                refine AllReadyH.cons rfl (fun K hK => ?_) AllReadyH.nil
                go_simp
                go_at_call 40
                refine (SR.out _ _ ?_ ).mono ?_
                · (refine isI_n (L.getN ?_) (L.getN ?_) <;> (repeat (first | (with_reducible exact List.mem_cons_self) | apply List.mem_cons_of_mem)))
                rintro e wh ⟨rfl, be⟩
                replace L := L.step be
                clear be
                go_wp2_with fail
                refine hK.out _ _ (by first | (with_reducible exact ⟨L.b0.c60, L.b0.c61, L.b0.c62, L.b0.c63, L.b0.c64, L.b0.c65, L.tl.b0.c60, L.tl.b0.c61, L.tl.b0.c62, L.tl.b0.c63, L.tl.b0.c64, L.tl.b0.c65⟩) | exact ⟨L.b0.c60, L.b0.c61, L.b0.c62, L.b0.c63, L.b0.c64, L.b0.c65, L.tl.b0.c60, L.tl.b0.c61, L.tl.b0.c62, L.tl.b0.c63, L.tl.b0.c64, L.tl.b0.c65⟩) (fun hHeld2 => ?_)
                clear hK K hHeld
                have hHeld := hHeld2
                clear hHeld2
                (try simp only [Act.put, List.setIfInBounds_toArray, List.set_cons_zero, List.set_cons_succ])
                refine wpAnyH_take (i := 4) (oi := { dst := some 64, op := _, type := _, pos := _, after := _, guard := _ }) (v := ?vqnfx4) rfl (by kernel_rfl) (by kernel_rfl) (by kernel_rfl) (fun _ _ _ h => h) (Or.inl ⟨by rfl, ?hyqnfx4⟩) (by assumption) ?restqnfx4
                case hyqnfx4 => (intro w hSw; (try dsimp only at hSw); go_simp; (try with_reducible rfl))
                case restqnfx4 =>
                  (try simp only [Act.put, List.setIfInBounds_toArray, List.set_cons_zero, List.set_cons_succ])
                  refine wpAnyH_take (i := 5) (oi := { dst := some 65, op := _, type := _, pos := _, after := _, guard := _ }) (v := ?vqnfx5) rfl (by kernel_rfl) (by kernel_rfl) (by kernel_rfl) (fun _ _ _ h => h) (Or.inl ⟨by rfl, ?hyqnfx5⟩) (by assumption) ?restqnfx5
                  case hyqnfx5 => (intro w hSw; (try dsimp only at hSw); go_simp; (try with_reducible rfl))
                  case restqnfx5 =>
                    (try simp only [Act.put, List.setIfInBounds_toArray, List.set_cons_zero, List.set_cons_succ])
                    refine wpAnyH_take (i := 6) (oi := { dst := some 66, op := _, type := _, pos := _, after := _, guard := _ }) (v := ?vqnfx6) rfl (by kernel_rfl) (by kernel_rfl) (by kernel_rfl) (fun _ _ _ h => h) (Or.inl ⟨by rfl, ?hyqnfx6⟩) (by assumption) ?restqnfx6
                    case hyqnfx6 => (intro w hSw; (try dsimp only at hSw); go_simp; (try with_reducible rfl))
                    case restqnfx6 =>
                      (try simp only [Act.put, List.setIfInBounds_toArray, List.set_cons_zero, List.set_cons_succ])
                      refine wpAnyH_ready (rs := [7]) (by kernel_rfl) (by simp) ?_
                      refine AllReadyH.cons rfl (fun K hK => ?_) AllReadyH.nil
                      go_simp
                      go_at_call 41
                      refine (RRW.out _ ?_ ).mono ?_
                      · exact L.below
                      rintro e wh ⟨rfl, be⟩
                      replace L := L.step be
                      clear be
                      go_wp2_with fail
                      refine hK.out _ _ (by first | (with_reducible exact ⟨L.b0.c60, L.b0.c61, L.b0.c62, L.b0.c63, L.b0.c64, L.b0.c65, L.tl.b0.c60, L.tl.b0.c61, L.tl.b0.c62, L.tl.b0.c63, L.tl.b0.c64, L.tl.b0.c65⟩) | exact ⟨L.b0.c60, L.b0.c61, L.b0.c62, L.b0.c63, L.b0.c64, L.b0.c65, L.tl.b0.c60, L.tl.b0.c61, L.tl.b0.c62, L.tl.b0.c63, L.tl.b0.c64, L.tl.b0.c65⟩) (fun hHeld2 => ?_)
                      clear hK K hHeld
                      have hHeld := hHeld2
                      clear hHeld2
                      (try simp only [Act.put, List.setIfInBounds_toArray, List.set_cons_zero, List.set_cons_succ])
                      refine wpAnyH_take (i := 8) (oi := { dst := some 68, op := _, type := _, pos := _, after := _, guard := _ }) (v := ?vqnfx8) rfl (by kernel_rfl) (by kernel_rfl) (by kernel_rfl) (fun _ _ _ h => h) (Or.inl ⟨by rfl, ?hyqnfx8⟩) (by assumption) ?restqnfx8
                      case hyqnfx8 => (intro w hSw; (try dsimp only at hSw); go_simp; (try with_reducible rfl))
                      case restqnfx8 =>
                        (try simp only [Act.put, List.setIfInBounds_toArray, List.set_cons_zero, List.set_cons_succ])
                        refine wpAnyH_take (i := 9) (oi := { dst := some 69, op := _, type := _, pos := _, after := _, guard := _ }) (v := undef) rfl (by kernel_rfl) (by kernel_rfl) (by kernel_rfl) (fun _ _ _ h => h) (Or.inr ⟨by rfl, rfl⟩) (by assumption) ?_
                        (try simp only [Act.put, List.setIfInBounds_toArray, List.set_cons_zero, List.set_cons_succ])
                        refine wpAnyH_take (i := 10) (oi := { dst := some 70, op := _, type := _, pos := _, after := _, guard := _ }) (v := undef) rfl (by kernel_rfl) (by kernel_rfl) (by kernel_rfl) (fun _ _ _ h => h) (Or.inr ⟨by rfl, rfl⟩) (by assumption) ?_
                        (try simp only [Act.put, List.setIfInBounds_toArray, List.set_cons_zero, List.set_cons_succ])
                        refine wpAnyH_take (i := 11) (oi := { dst := some 71, op := _, type := _, pos := _, after := _, guard := _ }) (v := undef) rfl (by kernel_rfl) (by kernel_rfl) (by kernel_rfl) (fun _ _ _ h => h) (Or.inr ⟨by rfl, rfl⟩) (by assumption) ?_
                        (try simp only [Act.put, List.setIfInBounds_toArray, List.set_cons_zero, List.set_cons_succ])
                        refine wpAnyH_take (i := 12) (oi := { dst := some 72, op := _, type := _, pos := _, after := _, guard := _ }) (v := undef) rfl (by kernel_rfl) (by kernel_rfl) (by kernel_rfl) (fun _ _ _ h => h) (Or.inr ⟨by rfl, rfl⟩) (by assumption) ?_
                        (try simp only [Act.put, List.setIfInBounds_toArray, List.set_cons_zero, List.set_cons_succ])
                        refine wpAnyH_take (i := 13) (oi := { dst := some 73, op := _, type := _, pos := _, after := _, guard := _ }) (v := undef) rfl (by kernel_rfl) (by kernel_rfl) (by kernel_rfl) (fun _ _ _ h => h) (Or.inr ⟨by rfl, rfl⟩) (by assumption) ?_
                        (try simp only [Act.put, List.setIfInBounds_toArray, List.set_cons_zero, List.set_cons_succ])
                        refine wpAnyH_take (i := 14) (oi := { dst := some 74, op := _, type := _, pos := _, after := _, guard := _ }) (v := ?vqnfx14) rfl (by kernel_rfl) (by kernel_rfl) (by kernel_rfl) (fun _ _ _ h => h) (Or.inl ⟨by rfl, ?hyqnfx14⟩) (by assumption) ?restqnfx14
                        case hyqnfx14 => (intro w hSw; (try dsimp only at hSw); go_simp; (try with_reducible rfl))
                        case restqnfx14 =>
                          (try simp only [Act.put, List.setIfInBounds_toArray, List.set_cons_zero, List.set_cons_succ])
                          refine wpAnyH_take (i := 15) (oi := { dst := some 75, op := _, type := _, pos := _, after := _, guard := _ }) (v := ?vqnfx15) rfl (by kernel_rfl) (by kernel_rfl) (by kernel_rfl) (fun _ _ _ h => h) (Or.inl ⟨by rfl, ?hyqnfx15⟩) (by assumption) ?restqnfx15
                          case hyqnfx15 => (intro w hSw; (try dsimp only at hSw); go_simp; (try with_reducible rfl))
                          case restqnfx15 =>
                            (try simp only [Act.put, List.setIfInBounds_toArray, List.set_cons_zero, List.set_cons_succ])
                            refine wpAnyH_done (by kernel_rfl) ?_ _
                            refine NoPanic.normal ?_
                            go_wp2_with fail
                            go_meet
                            exact ⟨by first | rfl | (simp; done) | (cases SC <;> rfl), L.below⟩
        · skip
          replace L := L.drew
          have cel00 := L.b0.c60
          have cel01 := L.b0.c61
          have cel02 := L.b0.c62
          have cel03 := L.b0.c63
          have cel04 := L.b0.c64
          have cel05 := L.b0.c65
          have cel10 := L.tl.b0.c60
          have cel11 := L.tl.b0.c61
          have cel12 := L.tl.b0.c62
          have cel13 := L.tl.b0.c63
          have cel14 := L.tl.b0.c64
          have cel15 := L.tl.b0.c65
          refine wp_region_noPanic ?_
          refine wp_region_held_drew (S := fun w' => w'.cell? ⟨w.heap.size, 0, none⟩ = some (.bool b0) ∧ w'.cell? ⟨w.heap.size, 1, none⟩ = some (.slice a0 len0 cap0) ∧ w'.cell? ⟨w.heap.size, 2, none⟩ = some (.int .i64 f0) ∧ w'.cell? ⟨w.heap.size, 3, none⟩ = some (.bool bb0) ∧ w'.cell? ⟨w.heap.size, 4, none⟩ = some (.slice aa0 ll0 cc0) ∧ w'.cell? ⟨w.heap.size, 5, none⟩ = some (.int .i64 ff0) ∧ w'.cell? ⟨gx, 0, none⟩ = some ((.bool (ng M))) ∧ w'.cell? ⟨gx, 1, none⟩ = some (.slice AM (zl M) cM) ∧ w'.cell? ⟨gx, 2, none⟩ = some (.int .i64 E) ∧ w'.cell? ⟨gx, 3, none⟩ = some (.bool (ng M)) ∧ w'.cell? ⟨gx, 4, none⟩ = some (.slice AM (zl M) cM) ∧ w'.cell? ⟨gx, 5, none⟩ = some (.int .i64 E)) (by kernel_rfl) ?rgsqntx (fun hHeld => ?rgrqntx)
          case rgsqntx => exact ⟨L.b0.c60, L.b0.c61, L.b0.c62, L.b0.c63, L.b0.c64, L.b0.c65, L.tl.b0.c60, L.tl.b0.c61, L.tl.b0.c62, L.tl.b0.c63, L.tl.b0.c64, L.tl.b0.c65⟩
          case rgrqntx =>
            refine wpAnyH_take (i := 0) (oi := { dst := some 60, op := _, type := _, pos := _, after := _, guard := _ }) (v := ?vqntx0) rfl (by kernel_rfl) (by kernel_rfl) (by kernel_rfl) (fun _ _ _ h => h) (Or.inl ⟨by rfl, ?hyqntx0⟩) (by assumption) ?restqntx0
            case hyqntx0 => (intro w hSw; (try dsimp only at hSw); go_simp; (try with_reducible rfl))
            case restqntx0 =>
              (try simp only [Act.put, List.setIfInBounds_toArray, List.set_cons_zero, List.set_cons_succ])
              refine wpAnyH_take (i := 2) (oi := { dst := some 62, op := _, type := _, pos := _, after := _, guard := _ }) (v := ?vqntx2) rfl (by kernel_rfl) (by kernel_rfl) (by kernel_rfl) (fun _ _ _ h => h) (Or.inl ⟨by rfl, ?hyqntx2⟩) (by assumption) ?restqntx2
              case hyqntx2 => (intro w hSw; (try dsimp only at hSw); go_simp; (try with_reducible rfl))
              case restqntx2 =>
                (try simp only [Act.put, List.setIfInBounds_toArray, List.set_cons_zero, List.set_cons_succ])
                refine wpAnyH_ready (rs := [1]) (by kernel_rfl) (by simp) ?_
                refine AllReadyH.cons rfl (fun K hK => ?_) AllReadyH.nil
                go_simp
                go_at_call 39
                refine (SA.out _ _ ?_ ).mono ?_
                · (refine isI_n (L.getN ?_) (L.getN ?_) <;> (repeat (first | (with_reducible exact List.mem_cons_self) | apply List.mem_cons_of_mem)))
                rintro e wh ⟨rfl, be⟩
                replace L := L.step be
                clear be
                go_wp2_with fail
                refine hK.out _ _ (by first | (with_reducible exact ⟨L.b0.c60, L.b0.c61, L.b0.c62, L.b0.c63, L.b0.c64, L.b0.c65, L.tl.b0.c60, L.tl.b0.c61, L.tl.b0.c62, L.tl.b0.c63, L.tl.b0.c64, L.tl.b0.c65⟩) | exact ⟨L.b0.c60, L.b0.c61, L.b0.c62, L.b0.c63, L.b0.c64, L.b0.c65, L.tl.b0.c60, L.tl.b0.c61, L.tl.b0.c62, L.tl.b0.c63, L.tl.b0.c64, L.tl.b0.c65⟩) (fun hHeld2 => ?_)
                clear hK K hHeld
                have hHeld := hHeld2
                clear hHeld2
                (try simp only [Act.put, List.setIfInBounds_toArray, List.set_cons_zero, List.set_cons_succ])
                refine wpAnyH_ready (rs := [3]) (by kernel_rfl) (by simp) ?_
                refine AllReadyH.cons rfl (fun K hK => ?_) AllReadyH.nil
                go_simp
                go_at_call 40
                refine (SR.out _ _ ?_ ).mono ?_
                · (refine isI_n (L.getN ?_) (L.getN ?_) <;> (repeat (first | (with_reducible exact List.mem_cons_self) | apply List.mem_cons_of_mem)))
                rintro e wh ⟨rfl, be⟩
                replace L := L.step be
                clear be
                go_wp2_with fail
                refine hK.out _ _ (by first | (with_reducible exact ⟨L.b0.c60, L.b0.c61, L.b0.c62, L.b0.c63, L.b0.c64, L.b0.c65, L.tl.b0.c60, L.tl.b0.c61, L.tl.b0.c62, L.tl.b0.c63, L.tl.b0.c64, L.tl.b0.c65⟩) | exact ⟨L.b0.c60, L.b0.c61, L.b0.c62, L.b0.c63, L.b0.c64, L.b0.c65, L.tl.b0.c60, L.tl.b0.c61, L.tl.b0.c62, L.tl.b0.c63, L.tl.b0.c64, L.tl.b0.c65⟩) (fun hHeld2 => ?_)
                clear hK K hHeld
                have hHeld := hHeld2
                clear hHeld2
                (try simp only [Act.put, List.setIfInBounds_toArray, List.set_cons_zero, List.set_cons_succ])
                refine wpAnyH_take (i := 4) (oi := { dst := some 64, op := _, type := _, pos := _, after := _, guard := _ }) (v := ?vqntx4) rfl (by kernel_rfl) (by kernel_rfl) (by kernel_rfl) (fun _ _ _ h => h) (Or.inl ⟨by rfl, ?hyqntx4⟩) (by assumption) ?restqntx4
                case hyqntx4 => (intro w hSw; (try dsimp only at hSw); go_simp; (try with_reducible rfl))
                case restqntx4 =>
                  (try simp only [Act.put, List.setIfInBounds_toArray, List.set_cons_zero, List.set_cons_succ])
                  refine wpAnyH_take (i := 5) (oi := { dst := some 65, op := _, type := _, pos := _, after := _, guard := _ }) (v := ?vqntx5) rfl (by kernel_rfl) (by kernel_rfl) (by kernel_rfl) (fun _ _ _ h => h) (Or.inl ⟨by rfl, ?hyqntx5⟩) (by assumption) ?restqntx5
                  case hyqntx5 => (intro w hSw; (try dsimp only at hSw); go_simp; (try with_reducible rfl))
                  case restqntx5 =>
                    (try simp only [Act.put, List.setIfInBounds_toArray, List.set_cons_zero, List.set_cons_succ])
                    refine wpAnyH_take (i := 6) (oi := { dst := some 66, op := _, type := _, pos := _, after := _, guard := _ }) (v := ?vqntx6) rfl (by kernel_rfl) (by kernel_rfl) (by kernel_rfl) (fun _ _ _ h => h) (Or.inl ⟨by rfl, ?hyqntx6⟩) (by assumption) ?restqntx6
                    case hyqntx6 => (intro w hSw; (try dsimp only at hSw); go_simp; (try with_reducible rfl))
                    case restqntx6 =>
                      (try simp only [Act.put, List.setIfInBounds_toArray, List.set_cons_zero, List.set_cons_succ])
                      refine wpAnyH_ready (rs := [7]) (by kernel_rfl) (by simp) ?_
                      refine AllReadyH.cons rfl (fun K hK => ?_) AllReadyH.nil
                      go_simp
                      go_at_call 41
                      refine (RRW.out _ ?_ ).mono ?_
                      · exact L.below
                      rintro e wh ⟨rfl, be⟩
                      replace L := L.step be
                      clear be
                      go_wp2_with fail
                      refine hK.out _ _ (by first | (with_reducible exact ⟨L.b0.c60, L.b0.c61, L.b0.c62, L.b0.c63, L.b0.c64, L.b0.c65, L.tl.b0.c60, L.tl.b0.c61, L.tl.b0.c62, L.tl.b0.c63, L.tl.b0.c64, L.tl.b0.c65⟩) | exact ⟨L.b0.c60, L.b0.c61, L.b0.c62, L.b0.c63, L.b0.c64, L.b0.c65, L.tl.b0.c60, L.tl.b0.c61, L.tl.b0.c62, L.tl.b0.c63, L.tl.b0.c64, L.tl.b0.c65⟩) (fun hHeld2 => ?_)
                      clear hK K hHeld
                      have hHeld := hHeld2
                      clear hHeld2
                      (try simp only [Act.put, List.setIfInBounds_toArray, List.set_cons_zero, List.set_cons_succ])
                      refine wpAnyH_take (i := 8) (oi := { dst := some 68, op := _, type := _, pos := _, after := _, guard := _ }) (v := ?vqntx8) rfl (by kernel_rfl) (by kernel_rfl) (by kernel_rfl) (fun _ _ _ h => h) (Or.inl ⟨by rfl, ?hyqntx8⟩) (by assumption) ?restqntx8
                      case hyqntx8 => (intro w hSw; (try dsimp only at hSw); go_simp; (try with_reducible rfl))
                      case restqntx8 =>
                        (try simp only [Act.put, List.setIfInBounds_toArray, List.set_cons_zero, List.set_cons_succ])
                        refine wpAnyH_take (i := 9) (oi := { dst := some 69, op := _, type := _, pos := _, after := _, guard := _ }) (v := undef) rfl (by kernel_rfl) (by kernel_rfl) (by kernel_rfl) (fun _ _ _ h => h) (Or.inr ⟨by rfl, rfl⟩) (by assumption) ?_
                        (try simp only [Act.put, List.setIfInBounds_toArray, List.set_cons_zero, List.set_cons_succ])
                        refine wpAnyH_take (i := 10) (oi := { dst := some 70, op := _, type := _, pos := _, after := _, guard := _ }) (v := undef) rfl (by kernel_rfl) (by kernel_rfl) (by kernel_rfl) (fun _ _ _ h => h) (Or.inr ⟨by rfl, rfl⟩) (by assumption) ?_
                        (try simp only [Act.put, List.setIfInBounds_toArray, List.set_cons_zero, List.set_cons_succ])
                        refine wpAnyH_take (i := 11) (oi := { dst := some 71, op := _, type := _, pos := _, after := _, guard := _ }) (v := undef) rfl (by kernel_rfl) (by kernel_rfl) (by kernel_rfl) (fun _ _ _ h => h) (Or.inr ⟨by rfl, rfl⟩) (by assumption) ?_
                        (try simp only [Act.put, List.setIfInBounds_toArray, List.set_cons_zero, List.set_cons_succ])
                        refine wpAnyH_take (i := 12) (oi := { dst := some 72, op := _, type := _, pos := _, after := _, guard := _ }) (v := undef) rfl (by kernel_rfl) (by kernel_rfl) (by kernel_rfl) (fun _ _ _ h => h) (Or.inr ⟨by rfl, rfl⟩) (by assumption) ?_
                        (try simp only [Act.put, List.setIfInBounds_toArray, List.set_cons_zero, List.set_cons_succ])
                        refine wpAnyH_take (i := 13) (oi := { dst := some 73, op := _, type := _, pos := _, after := _, guard := _ }) (v := undef) rfl (by kernel_rfl) (by kernel_rfl) (by kernel_rfl) (fun _ _ _ h => h) (Or.inr ⟨by rfl, rfl⟩) (by assumption) ?_
                        (try simp only [Act.put, List.setIfInBounds_toArray, List.set_cons_zero, List.set_cons_succ])
                        refine wpAnyH_take (i := 14) (oi := { dst := some 74, op := _, type := _, pos := _, after := _, guard := _ }) (v := ?vqntx14) rfl (by kernel_rfl) (by kernel_rfl) (by kernel_rfl) (fun _ _ _ h => h) (Or.inl ⟨by rfl, ?hyqntx14⟩) (by assumption) ?restqntx14
                        case hyqntx14 => (intro w hSw; (try dsimp only at hSw); go_simp; (try with_reducible rfl))
                        case restqntx14 =>
                          (try simp only [Act.put, List.setIfInBounds_toArray, List.set_cons_zero, List.set_cons_succ])
                          refine wpAnyH_take (i := 15) (oi := { dst := some 75, op := _, type := _, pos := _, after := _, guard := _ }) (v := ?vqntx15) rfl (by kernel_rfl) (by kernel_rfl) (by kernel_rfl) (fun _ _ _ h => h) (Or.inl ⟨by rfl, ?hyqntx15⟩) (by assumption) ?restqntx15
                          case hyqntx15 => (intro w hSw; (try dsimp only at hSw); go_simp; (try with_reducible rfl))
                          case restqntx15 =>
                            (try simp only [Act.put, List.setIfInBounds_toArray, List.set_cons_zero, List.set_cons_succ])
                            refine wpAnyH_done (by kernel_rfl) ?_ _
                            refine NoPanic.normal ?_
                            go_wp2_with fail
                            go_meet
                            exact ⟨by first | rfl | (simp; done) | (cases SC <;> rfl), L.below⟩
      · have hv9 := HVR.out
        rw [Bool.and_eq_true, Bool.and_eq_true] at hv9
        obtain ⟨m5, _, rfl, rfl, i5, v5⟩ := dval_pair hb7 hv9.1
        obtain ⟨m6, _, rfl, rfl, i6, v6⟩ := dval_pair hb8 hv9.2.1
        have sar := fun v W h => asmall_any m5 f0 m6 ff0 v W h (by omega) (by omega) (dv_e v5) (dv_e v6) v5 v6
        have srr := fun v W h => rsmall11_any m5 f0 m6 ff0 v W h (by omega) (by omega) (dv_e v5) (dv_e v6) v5 v6
        obtain ⟨SC, hSC⟩ : ∃ b, smallB m5 f0 m6 ff0 = b := ⟨_, rfl⟩
        rw [hSC] at sar srr
        have SAR := Lib.hid sar
        have SRR := Lib.hid srr
        have L : Lq V V [(.slice a0 (zl m5) cap0, m5.natAbs), (.slice aa0 (zl m6) cc0, m6.natAbs), (.slice AM (zl M) cM, M.natAbs)] [] [] [(w.heap.size, 28, #[.bool (ng m5), .slice a0 (zl m5) cap0, .int .i64 f0, .bool (ng m6), .slice aa0 (zl m6) cc0, .int .i64 ff0]), (gx, 28, #[.bool (ng M), .slice AM (zl M) cM, .int .i64 E, .bool (ng M), .slice AM (zl M) cM, .int .i64 E])] := (((((Lq.mk0 V).n iM).n i6).n i5).b BX).b BR
        clear BX BR HVR hb7 hb8 iM hv9 sar srr hSC i5 i6 v5 v6 h0 k0 q1 q2
        cases SB
        · skip
          replace L := L.drew
          have cel00 := L.b0.c60
          have cel01 := L.b0.c61
          have cel02 := L.b0.c62
          have cel03 := L.b0.c63
          have cel04 := L.b0.c64
          have cel05 := L.b0.c65
          have cel10 := L.tl.b0.c60
          have cel11 := L.tl.b0.c61
          have cel12 := L.tl.b0.c62
          have cel13 := L.tl.b0.c63
          have cel14 := L.tl.b0.c64
          have cel15 := L.tl.b0.c65
          refine wp_region_noPanic ?_
          refine wp_region_held_drew (S := fun w' => w'.cell? ⟨w.heap.size, 0, none⟩ = some (.bool (ng m5)) ∧ w'.cell? ⟨w.heap.size, 1, none⟩ = some (.slice a0 (zl m5) cap0) ∧ w'.cell? ⟨w.heap.size, 2, none⟩ = some (.int .i64 f0) ∧ w'.cell? ⟨w.heap.size, 3, none⟩ = some (.bool (ng m6)) ∧ w'.cell? ⟨w.heap.size, 4, none⟩ = some (.slice aa0 (zl m6) cc0) ∧ w'.cell? ⟨w.heap.size, 5, none⟩ = some (.int .i64 ff0) ∧ w'.cell? ⟨gx, 0, none⟩ = some ((.bool (ng M))) ∧ w'.cell? ⟨gx, 1, none⟩ = some (.slice AM (zl M) cM) ∧ w'.cell? ⟨gx, 2, none⟩ = some (.int .i64 E) ∧ w'.cell? ⟨gx, 3, none⟩ = some (.bool (ng M)) ∧ w'.cell? ⟨gx, 4, none⟩ = some (.slice AM (zl M) cM) ∧ w'.cell? ⟨gx, 5, none⟩ = some (.int .i64 E)) (by kernel_rfl) ?rgsqyfxx (fun hHeld => ?rgrqyfxx)
          case rgsqyfxx => exact ⟨L.b0.c60, L.b0.c61, L.b0.c62, L.b0.c63, L.b0.c64, L.b0.c65, L.tl.b0.c60, L.tl.b0.c61, L.tl.b0.c62, L.tl.b0.c63, L.tl.b0.c64, L.tl.b0.c65⟩
          case rgrqyfxx =>
            refine wpAnyH_take (i := 0) (oi := { dst := some 60, op := _, type := _, pos := _, after := _, guard := _ }) (v := ?vqyfxx0) rfl (by kernel_rfl) (by kernel_rfl) (by kernel_rfl) (fun _ _ _ h => h) (Or.inl ⟨by rfl, ?hyqyfxx0⟩) (by assumption) ?restqyfxx0
            case hyqyfxx0 => (intro w hSw; (try dsimp only at hSw); go_simp; (try with_reducible rfl))
            case restqyfxx0 =>
              (try simp only [Act.put, List.setIfInBounds_toArray, List.set_cons_zero, List.set_cons_succ])
              refine wpAnyH_take (i := 2) (oi := { dst := some 62, op := _, type := _, pos := _, after := _, guard := _ }) (v := ?vqyfxx2) rfl (by kernel_rfl) (by kernel_rfl) (by kernel_rfl) (fun _ _ _ h => h) (Or.inl ⟨by rfl, ?hyqyfxx2⟩) (by assumption) ?restqyfxx2
              case hyqyfxx2 => (intro w hSw; (try dsimp only at hSw); go_simp; (try with_reducible rfl))
              case restqyfxx2 =>
                (try simp only [Act.put, List.setIfInBounds_toArray, List.set_cons_zero, List.set_cons_succ])
                refine wpAnyH_ready (rs := [1]) (by kernel_rfl) (by simp) ?_
                refine AllReadyH.cons rfl (fun K hK => ?_) AllReadyH.nil
                go_simp
                go_at_call 39
                refine (SA.out _ _ ?_ ).mono ?_
                · (refine isI_n (L.getN ?_) (L.getN ?_) <;> (repeat (first | (with_reducible exact List.mem_cons_self) | apply List.mem_cons_of_mem)))
                rintro e wh ⟨rfl, be⟩
                replace L := L.step be
                clear be
                go_wp2_with fail
                refine hK.out _ _ (by first | (with_reducible exact ⟨L.b0.c60, L.b0.c61, L.b0.c62, L.b0.c63, L.b0.c64, L.b0.c65, L.tl.b0.c60, L.tl.b0.c61, L.tl.b0.c62, L.tl.b0.c63, L.tl.b0.c64, L.tl.b0.c65⟩) | exact ⟨L.b0.c60, L.b0.c61, L.b0.c62, L.b0.c63, L.b0.c64, L.b0.c65, L.tl.b0.c60, L.tl.b0.c61, L.tl.b0.c62, L.tl.b0.c63, L.tl.b0.c64, L.tl.b0.c65⟩) (fun hHeld2 => ?_)
                clear hK K hHeld
                have hHeld := hHeld2
                clear hHeld2
                (try simp only [Act.put, List.setIfInBounds_toArray, List.set_cons_zero, List.set_cons_succ])
                refine wpAnyH_ready (rs := [3]) (by kernel_rfl) (by simp) ?_
                refine AllReadyH.cons rfl (fun K hK => ?_) AllReadyH.nil
                go_simp
                go_at_call 40
                refine (SR.out _ _ ?_ ).mono ?_
                · (refine isI_n (L.getN ?_) (L.getN ?_) <;> (repeat (first | (with_reducible exact List.mem_cons_self) | apply List.mem_cons_of_mem)))
                rintro e wh ⟨rfl, be⟩
                replace L := L.step be
                clear be
                go_wp2_with fail
                refine hK.out _ _ (by first | (with_reducible exact ⟨L.b0.c60, L.b0.c61, L.b0.c62, L.b0.c63, L.b0.c64, L.b0.c65, L.tl.b0.c60, L.tl.b0.c61, L.tl.b0.c62, L.tl.b0.c63, L.tl.b0.c64, L.tl.b0.c65⟩) | exact ⟨L.b0.c60, L.b0.c61, L.b0.c62, L.b0.c63, L.b0.c64, L.b0.c65, L.tl.b0.c60, L.tl.b0.c61, L.tl.b0.c62, L.tl.b0.c63, L.tl.b0.c64, L.tl.b0.c65⟩) (fun hHeld2 => ?_)
                clear hK K hHeld
                have hHeld := hHeld2
                clear hHeld2
                (try simp only [Act.put, List.setIfInBounds_toArray, List.set_cons_zero, List.set_cons_succ])
                refine wpAnyH_take (i := 4) (oi := { dst := some 64, op := _, type := _, pos := _, after := _, guard := _ }) (v := ?vqyfxx4) rfl (by kernel_rfl) (by kernel_rfl) (by kernel_rfl) (fun _ _ _ h => h) (Or.inl ⟨by rfl, ?hyqyfxx4⟩) (by assumption) ?restqyfxx4
                case hyqyfxx4 => (intro w hSw; (try dsimp only at hSw); go_simp; (try with_reducible rfl))
                case restqyfxx4 =>
                  (try simp only [Act.put, List.setIfInBounds_toArray, List.set_cons_zero, List.set_cons_succ])
                  refine wpAnyH_take (i := 5) (oi := { dst := some 65, op := _, type := _, pos := _, after := _, guard := _ }) (v := ?vqyfxx5) rfl (by kernel_rfl) (by kernel_rfl) (by kernel_rfl) (fun _ _ _ h => h) (Or.inl ⟨by rfl, ?hyqyfxx5⟩) (by assumption) ?restqyfxx5
                  case hyqyfxx5 => (intro w hSw; (try dsimp only at hSw); go_simp; (try with_reducible rfl))
                  case restqyfxx5 =>
                    (try simp only [Act.put, List.setIfInBounds_toArray, List.set_cons_zero, List.set_cons_succ])
                    refine wpAnyH_take (i := 6) (oi := { dst := some 66, op := _, type := _, pos := _, after := _, guard := _ }) (v := ?vqyfxx6) rfl (by kernel_rfl) (by kernel_rfl) (by kernel_rfl) (fun _ _ _ h => h) (Or.inl ⟨by rfl, ?hyqyfxx6⟩) (by assumption) ?restqyfxx6
                    case hyqyfxx6 => (intro w hSw; (try dsimp only at hSw); go_simp; (try with_reducible rfl))
                    case restqyfxx6 =>
                      (try simp only [Act.put, List.setIfInBounds_toArray, List.set_cons_zero, List.set_cons_succ])
                      refine wpAnyH_ready (rs := [7]) (by kernel_rfl) (by simp) ?_
                      refine AllReadyH.cons rfl (fun K hK => ?_) AllReadyH.nil
                      go_simp
                      go_at_call 41
                      refine (RRW.out _ ?_ ).mono ?_
                      · exact L.below
                      rintro e wh ⟨rfl, be⟩
                      replace L := L.step be
                      clear be
                      go_wp2_with fail
                      refine hK.out _ _ (by first | (with_reducible exact ⟨L.b0.c60, L.b0.c61, L.b0.c62, L.b0.c63, L.b0.c64, L.b0.c65, L.tl.b0.c60, L.tl.b0.c61, L.tl.b0.c62, L.tl.b0.c63, L.tl.b0.c64, L.tl.b0.c65⟩) | exact ⟨L.b0.c60, L.b0.c61, L.b0.c62, L.b0.c63, L.b0.c64, L.b0.c65, L.tl.b0.c60, L.tl.b0.c61, L.tl.b0.c62, L.tl.b0.c63, L.tl.b0.c64, L.tl.b0.c65⟩) (fun hHeld2 => ?_)
                      clear hK K hHeld
                      have hHeld := hHeld2
                      clear hHeld2
                      (try simp only [Act.put, List.setIfInBounds_toArray, List.set_cons_zero, List.set_cons_succ])
                      refine wpAnyH_take (i := 8) (oi := { dst := some 68, op := _, type := _, pos := _, after := _, guard := _ }) (v := ?vqyfxx8) rfl (by kernel_rfl) (by kernel_rfl) (by kernel_rfl) (fun _ _ _ h => h) (Or.inl ⟨by rfl, ?hyqyfxx8⟩) (by assumption) ?restqyfxx8
                      case hyqyfxx8 => (intro w hSw; (try dsimp only at hSw); go_simp; (try with_reducible rfl))
                      case restqyfxx8 =>
                        (try simp only [Act.put, List.setIfInBounds_toArray, List.set_cons_zero, List.set_cons_succ])
                        refine wpAnyH_take (i := 9) (oi := { dst := some 69, op := _, type := _, pos := _, after := _, guard := _ }) (v := ?vqyfxx9) rfl (by kernel_rfl) (by kernel_rfl) (by kernel_rfl) (fun _ _ _ h => h) (Or.inl ⟨by rfl, ?hyqyfxx9⟩) (by assumption) ?restqyfxx9
                        case hyqyfxx9 => (intro w hSw; (try dsimp only at hSw); go_simp; (try with_reducible rfl))
                        case restqyfxx9 =>
                          (try simp only [Act.put, List.setIfInBounds_toArray, List.set_cons_zero, List.set_cons_succ])
                          refine wpAnyH_take (i := 11) (oi := { dst := some 71, op := _, type := _, pos := _, after := _, guard := _ }) (v := ?vqyfxx11) rfl (by kernel_rfl) (by kernel_rfl) (by kernel_rfl) (fun _ _ _ h => h) (Or.inl ⟨by rfl, ?hyqyfxx11⟩) (by assumption) ?restqyfxx11
                          case hyqyfxx11 => (intro w hSw; (try dsimp only at hSw); go_simp; (try with_reducible rfl))
                          case restqyfxx11 =>
                            (try simp only [Act.put, List.setIfInBounds_toArray, List.set_cons_zero, List.set_cons_succ])
                            refine wpAnyH_ready (rs := [10]) (by kernel_rfl) (by simp) ?_
                            refine AllReadyH.cons rfl (fun K hK => ?_) AllReadyH.nil
                            go_simp
                            go_at_call 39
                            refine (SAR.out _ _ ?_ ).mono ?_
                            · (refine isI_n (L.getN ?_) (L.getN ?_) <;> (repeat (first | (with_reducible exact List.mem_cons_self) | apply List.mem_cons_of_mem)))
                            rintro e wh ⟨rfl, be⟩
                            replace L := L.step be
                            clear be
                            go_wp2_with fail
                            refine hK.out _ _ (by first | (with_reducible exact ⟨L.b0.c60, L.b0.c61, L.b0.c62, L.b0.c63, L.b0.c64, L.b0.c65, L.tl.b0.c60, L.tl.b0.c61, L.tl.b0.c62, L.tl.b0.c63, L.tl.b0.c64, L.tl.b0.c65⟩) | exact ⟨L.b0.c60, L.b0.c61, L.b0.c62, L.b0.c63, L.b0.c64, L.b0.c65, L.tl.b0.c60, L.tl.b0.c61, L.tl.b0.c62, L.tl.b0.c63, L.tl.b0.c64, L.tl.b0.c65⟩) (fun hHeld2 => ?_)
                            clear hK K hHeld
                            have hHeld := hHeld2
                            clear hHeld2
                            (try simp only [Act.put, List.setIfInBounds_toArray, List.set_cons_zero, List.set_cons_succ])
                            refine wpAnyH_ready (rs := [12]) (by kernel_rfl) (by simp) ?_
                            refine AllReadyH.cons rfl (fun K hK => ?_) AllReadyH.nil
                            go_simp
                            go_at_call 40
                            refine (SRR.out _ _ ?_ ).mono ?_
                            · (refine isI_n (L.getN ?_) (L.getN ?_) <;> (repeat (first | (with_reducible exact List.mem_cons_self) | apply List.mem_cons_of_mem)))
                            rintro e wh ⟨rfl, be⟩
                            replace L := L.step be
                            clear be
                            go_wp2_with fail
                            refine hK.out _ _ (by first | (with_reducible exact ⟨L.b0.c60, L.b0.c61, L.b0.c62, L.b0.c63, L.b0.c64, L.b0.c65, L.tl.b0.c60, L.tl.b0.c61, L.tl.b0.c62, L.tl.b0.c63, L.tl.b0.c64, L.tl.b0.c65⟩) | exact ⟨L.b0.c60, L.b0.c61, L.b0.c62, L.b0.c63, L.b0.c64, L.b0.c65, L.tl.b0.c60, L.tl.b0.c61, L.tl.b0.c62, L.tl.b0.c63, L.tl.b0.c64, L.tl.b0.c65⟩) (fun hHeld2 => ?_)
                            clear hK K hHeld
                            have hHeld := hHeld2
                            clear hHeld2
                            (try simp only [Act.put, List.setIfInBounds_toArray, List.set_cons_zero, List.set_cons_succ])
                            refine wpAnyH_take (i := 13) (oi := { dst := some 73, op := _, type := _, pos := _, after := _, guard := _ }) (v := ?vqyfxx13) rfl (by kernel_rfl) (by kernel_rfl) (by kernel_rfl) (fun _ _ _ h => h) (Or.inl ⟨by rfl, ?hyqyfxx13⟩) (by assumption) ?restqyfxx13
                            case hyqyfxx13 => (intro w hSw; (try dsimp only at hSw); go_simp; (try with_reducible rfl))
                            case restqyfxx13 =>
                              (try simp only [Act.put, List.setIfInBounds_toArray, List.set_cons_zero, List.set_cons_succ])
                              refine wpAnyH_take (i := 14) (oi := { dst := some 74, op := _, type := _, pos := _, after := _, guard := _ }) (v := ?vqyfxx14) rfl (by kernel_rfl) (by kernel_rfl) (by kernel_rfl) (fun _ _ _ h => h) (Or.inl ⟨by rfl, ?hyqyfxx14⟩) (by assumption) ?restqyfxx14
                              case hyqyfxx14 => (intro w hSw; (try dsimp only at hSw); go_simp; (try with_reducible rfl))
                              case restqyfxx14 =>
                                (try simp only [Act.put, List.setIfInBounds_toArray, List.set_cons_zero, List.set_cons_succ])
                                refine wpAnyH_take (i := 15) (oi := { dst := some 75, op := _, type := _, pos := _, after := _, guard := _ }) (v := ?vqyfxx15) rfl (by kernel_rfl) (by kernel_rfl) (by kernel_rfl) (fun _ _ _ h => h) (Or.inl ⟨by rfl, ?hyqyfxx15⟩) (by assumption) ?restqyfxx15
                                case hyqyfxx15 => (intro w hSw; (try dsimp only at hSw); go_simp; (try with_reducible rfl))
                                case restqyfxx15 =>
                                  (try simp only [Act.put, List.setIfInBounds_toArray, List.set_cons_zero, List.set_cons_succ])
                                  refine wpAnyH_done (by kernel_rfl) ?_ _
                                  refine NoPanic.normal ?_
                                  go_wp2_with fail
                                  go_meet
                                  exact ⟨by first | rfl | (simp; done) | (cases SC <;> rfl), L.below⟩
        · skip
          replace L := L.drew
          have cel00 := L.b0.c60
          have cel01 := L.b0.c61
          have cel02 := L.b0.c62
          have cel03 := L.b0.c63
          have cel04 := L.b0.c64
          have cel05 := L.b0.c65
          have cel10 := L.tl.b0.c60
          have cel11 := L.tl.b0.c61
          have cel12 := L.tl.b0.c62
          have cel13 := L.tl.b0.c63
          have cel14 := L.tl.b0.c64
          have cel15 := L.tl.b0.c65
          refine wp_region_noPanic ?_
          refine wp_region_held_drew (S := fun w' => w'.cell? ⟨w.heap.size, 0, none⟩ = some (.bool (ng m5)) ∧ w'.cell? ⟨w.heap.size, 1, none⟩ = some (.slice a0 (zl m5) cap0) ∧ w'.cell? ⟨w.heap.size, 2, none⟩ = some (.int .i64 f0) ∧ w'.cell? ⟨w.heap.size, 3, none⟩ = some (.bool (ng m6)) ∧ w'.cell? ⟨w.heap.size, 4, none⟩ = some (.slice aa0 (zl m6) cc0) ∧ w'.cell? ⟨w.heap.size, 5, none⟩ = some (.int .i64 ff0) ∧ w'.cell? ⟨gx, 0, none⟩ = some ((.bool (ng M))) ∧ w'.cell? ⟨gx, 1, none⟩ = some (.slice AM (zl M) cM) ∧ w'.cell? ⟨gx, 2, none⟩ = some (.int .i64 E) ∧ w'.cell? ⟨gx, 3, none⟩ = some (.bool (ng M)) ∧ w'.cell? ⟨gx, 4, none⟩ = some (.slice AM (zl M) cM) ∧ w'.cell? ⟨gx, 5, none⟩ = some (.int .i64 E)) (by kernel_rfl) ?rgsqytxx (fun hHeld => ?rgrqytxx)
          case rgsqytxx => exact ⟨L.b0.c60, L.b0.c61, L.b0.c62, L.b0.c63, L.b0.c64, L.b0.c65, L.tl.b0.c60, L.tl.b0.c61, L.tl.b0.c62, L.tl.b0.c63, L.tl.b0.c64, L.tl.b0.c65⟩
          case rgrqytxx =>
            refine wpAnyH_take (i := 0) (oi := { dst := some 60, op := _, type := _, pos := _, after := _, guard := _ }) (v := ?vqytxx0) rfl (by kernel_rfl) (by kernel_rfl) (by kernel_rfl) (fun _ _ _ h => h) (Or.inl ⟨by rfl, ?hyqytxx0⟩) (by assumption) ?restqytxx0
            case hyqytxx0 => (intro w hSw; (try dsimp only at hSw); go_simp; (try with_reducible rfl))
            case restqytxx0 =>
              (try simp only [Act.put, List.setIfInBounds_toArray, List.set_cons_zero, List.set_cons_succ])
              refine wpAnyH_take (i := 2) (oi := { dst := some 62, op := _, type := _, pos := _, after := _, guard := _ }) (v := ?vqytxx2) rfl (by kernel_rfl) (by kernel_rfl) (by kernel_rfl) (fun _ _ _ h => h) (Or.inl ⟨by rfl, ?hyqytxx2⟩) (by assumption) ?restqytxx2
              case hyqytxx2 => (intro w hSw; (try dsimp only at hSw); go_simp; (try with_reducible rfl))
              case restqytxx2 =>
                (try simp only [Act.put, List.setIfInBounds_toArray, List.set_cons_zero, List.set_cons_succ])
                refine wpAnyH_ready (rs := [1]) (by kernel_rfl) (by simp) ?_
                refine AllReadyH.cons rfl (fun K hK => ?_) AllReadyH.nil
                go_simp
                go_at_call 39
                refine (SA.out _ _ ?_ ).mono ?_
                · (refine isI_n (L.getN ?_) (L.getN ?_) <;> (repeat (first | (with_reducible exact List.mem_cons_self) | apply List.mem_cons_of_mem)))
                rintro e wh ⟨rfl, be⟩
                replace L := L.step be
                clear be
                go_wp2_with fail
                refine hK.out _ _ (by first | (with_reducible exact ⟨L.b0.c60, L.b0.c61, L.b0.c62, L.b0.c63, L.b0.c64, L.b0.c65, L.tl.b0.c60, L.tl.b0.c61, L.tl.b0.c62, L.tl.b0.c63, L.tl.b0.c64, L.tl.b0.c65⟩) | exact ⟨L.b0.c60, L.b0.c61, L.b0.c62, L.b0.c63, L.b0.c64, L.b0.c65, L.tl.b0.c60, L.tl.b0.c61, L.tl.b0.c62, L.tl.b0.c63, L.tl.b0.c64, L.tl.b0.c65⟩) (fun hHeld2 => ?_)
                clear hK K hHeld
                have hHeld := hHeld2
                clear hHeld2
                (try simp only [Act.put, List.setIfInBounds_toArray, List.set_cons_zero, List.set_cons_succ])
                refine wpAnyH_ready (rs := [3]) (by kernel_rfl) (by simp) ?_
                refine AllReadyH.cons rfl (fun K hK => ?_) AllReadyH.nil
                go_simp
                go_at_call 40
                refine (SR.out _ _ ?_ ).mono ?_
                · (refine isI_n (L.getN ?_) (L.getN ?_) <;> (repeat (first | (with_reducible exact List.mem_cons_self) | apply List.mem_cons_of_mem)))
                rintro e wh ⟨rfl, be⟩
                replace L := L.step be
                clear be
                go_wp2_with fail
                refine hK.out _ _ (by first | (with_reducible exact ⟨L.b0.c60, L.b0.c61, L.b0.c62, L.b0.c63, L.b0.c64, L.b0.c65, L.tl.b0.c60, L.tl.b0.c61, L.tl.b0.c62, L.tl.b0.c63, L.tl.b0.c64, L.tl.b0.c65⟩) | exact ⟨L.b0.c60, L.b0.c61, L.b0.c62, L.b0.c63, L.b0.c64, L.b0.c65, L.tl.b0.c60, L.tl.b0.c61, L.tl.b0.c62, L.tl.b0.c63, L.tl.b0.c64, L.tl.b0.c65⟩) (fun hHeld2 => ?_)
                clear hK K hHeld
                have hHeld := hHeld2
                clear hHeld2
                (try simp only [Act.put, List.setIfInBounds_toArray, List.set_cons_zero, List.set_cons_succ])
                refine wpAnyH_take (i := 4) (oi := { dst := some 64, op := _, type := _, pos := _, after := _, guard := _ }) (v := ?vqytxx4) rfl (by kernel_rfl) (by kernel_rfl) (by kernel_rfl) (fun _ _ _ h => h) (Or.inl ⟨by rfl, ?hyqytxx4⟩) (by assumption) ?restqytxx4
                case hyqytxx4 => (intro w hSw; (try dsimp only at hSw); go_simp; (try with_reducible rfl))
                case restqytxx4 =>
                  (try simp only [Act.put, List.setIfInBounds_toArray, List.set_cons_zero, List.set_cons_succ])
                  refine wpAnyH_take (i := 5) (oi := { dst := some 65, op := _, type := _, pos := _, after := _, guard := _ }) (v := ?vqytxx5) rfl (by kernel_rfl) (by kernel_rfl) (by kernel_rfl) (fun _ _ _ h => h) (Or.inl ⟨by rfl, ?hyqytxx5⟩) (by assumption) ?restqytxx5
                  case hyqytxx5 => (intro w hSw; (try dsimp only at hSw); go_simp; (try with_reducible rfl))
                  case restqytxx5 =>
                    (try simp only [Act.put, List.setIfInBounds_toArray, List.set_cons_zero, List.set_cons_succ])
                    refine wpAnyH_take (i := 6) (oi := { dst := some 66, op := _, type := _, pos := _, after := _, guard := _ }) (v := ?vqytxx6) rfl (by kernel_rfl) (by kernel_rfl) (by kernel_rfl) (fun _ _ _ h => h) (Or.inl ⟨by rfl, ?hyqytxx6⟩) (by assumption) ?restqytxx6
                    case hyqytxx6 => (intro w hSw; (try dsimp only at hSw); go_simp; (try with_reducible rfl))
                    case restqytxx6 =>
                      (try simp only [Act.put, List.setIfInBounds_toArray, List.set_cons_zero, List.set_cons_succ])
                      refine wpAnyH_ready (rs := [7]) (by kernel_rfl) (by simp) ?_
                      refine AllReadyH.cons rfl (fun K hK => ?_) AllReadyH.nil
                      go_simp
                      go_at_call 41
                      refine (RRW.out _ ?_ ).mono ?_
                      · exact L.below
                      rintro e wh ⟨rfl, be⟩
                      replace L := L.step be
                      clear be
                      go_wp2_with fail
                      refine hK.out _ _ (by first | (with_reducible exact ⟨L.b0.c60, L.b0.c61, L.b0.c62, L.b0.c63, L.b0.c64, L.b0.c65, L.tl.b0.c60, L.tl.b0.c61, L.tl.b0.c62, L.tl.b0.c63, L.tl.b0.c64, L.tl.b0.c65⟩) | exact ⟨L.b0.c60, L.b0.c61, L.b0.c62, L.b0.c63, L.b0.c64, L.b0.c65, L.tl.b0.c60, L.tl.b0.c61, L.tl.b0.c62, L.tl.b0.c63, L.tl.b0.c64, L.tl.b0.c65⟩) (fun hHeld2 => ?_)
                      clear hK K hHeld
                      have hHeld := hHeld2
                      clear hHeld2
                      (try simp only [Act.put, List.setIfInBounds_toArray, List.set_cons_zero, List.set_cons_succ])
                      refine wpAnyH_take (i := 8) (oi := { dst := some 68, op := _, type := _, pos := _, after := _, guard := _ }) (v := ?vqytxx8) rfl (by kernel_rfl) (by kernel_rfl) (by kernel_rfl) (fun _ _ _ h => h) (Or.inl ⟨by rfl, ?hyqytxx8⟩) (by assumption) ?restqytxx8
                      case hyqytxx8 => (intro w hSw; (try dsimp only at hSw); go_simp; (try with_reducible rfl))
                      case restqytxx8 =>
                        (try simp only [Act.put, List.setIfInBounds_toArray, List.set_cons_zero, List.set_cons_succ])
                        refine wpAnyH_take (i := 9) (oi := { dst := some 69, op := _, type := _, pos := _, after := _, guard := _ }) (v := ?vqytxx9) rfl (by kernel_rfl) (by kernel_rfl) (by kernel_rfl) (fun _ _ _ h => h) (Or.inl ⟨by rfl, ?hyqytxx9⟩) (by assumption) ?restqytxx9
                        case hyqytxx9 => (intro w hSw; (try dsimp only at hSw); go_simp; (try with_reducible rfl))
                        case restqytxx9 =>
                          (try simp only [Act.put, List.setIfInBounds_toArray, List.set_cons_zero, List.set_cons_succ])
                          refine wpAnyH_take (i := 11) (oi := { dst := some 71, op := _, type := _, pos := _, after := _, guard := _ }) (v := ?vqytxx11) rfl (by kernel_rfl) (by kernel_rfl) (by kernel_rfl) (fun _ _ _ h => h) (Or.inl ⟨by rfl, ?hyqytxx11⟩) (by assumption) ?restqytxx11
                          case hyqytxx11 => (intro w hSw; (try dsimp only at hSw); go_simp; (try with_reducible rfl))
                          case restqytxx11 =>
                            (try simp only [Act.put, List.setIfInBounds_toArray, List.set_cons_zero, List.set_cons_succ])
                            refine wpAnyH_ready (rs := [10]) (by kernel_rfl) (by simp) ?_
                            refine AllReadyH.cons rfl (fun K hK => ?_) AllReadyH.nil
                            go_simp
                            go_at_call 39
                            refine (SAR.out _ _ ?_ ).mono ?_
                            · (refine isI_n (L.getN ?_) (L.getN ?_) <;> (repeat (first | (with_reducible exact List.mem_cons_self) | apply List.mem_cons_of_mem)))
                            rintro e wh ⟨rfl, be⟩
                            replace L := L.step be
                            clear be
                            go_wp2_with fail
                            refine hK.out _ _ (by first | (with_reducible exact ⟨L.b0.c60, L.b0.c61, L.b0.c62, L.b0.c63, L.b0.c64, L.b0.c65, L.tl.b0.c60, L.tl.b0.c61, L.tl.b0.c62, L.tl.b0.c63, L.tl.b0.c64, L.tl.b0.c65⟩) | exact ⟨L.b0.c60, L.b0.c61, L.b0.c62, L.b0.c63, L.b0.c64, L.b0.c65, L.tl.b0.c60, L.tl.b0.c61, L.tl.b0.c62, L.tl.b0.c63, L.tl.b0.c64, L.tl.b0.c65⟩) (fun hHeld2 => ?_)
                            clear hK K hHeld
                            have hHeld := hHeld2
                            clear hHeld2
                            (try simp only [Act.put, List.setIfInBounds_toArray, List.set_cons_zero, List.set_cons_succ])
                            refine wpAnyH_ready (rs := [12]) (by kernel_rfl) (by simp) ?_
                            refine AllReadyH.cons rfl (fun K hK => ?_) AllReadyH.nil
                            go_simp
                            go_at_call 40
                            refine (SRR.out _ _ ?_ ).mono ?_
                            · (refine isI_n (L.getN ?_) (L.getN ?_) <;> (repeat (first | (with_reducible exact List.mem_cons_self) | apply List.mem_cons_of_mem)))
                            rintro e wh ⟨rfl, be⟩
                            replace L := L.step be
                            clear be
                            go_wp2_with fail
                            refine hK.out _ _ (by first | (with_reducible exact ⟨L.b0.c60, L.b0.c61, L.b0.c62, L.b0.c63, L.b0.c64, L.b0.c65, L.tl.b0.c60, L.tl.b0.c61, L.tl.b0.c62, L.tl.b0.c63, L.tl.b0.c64, L.tl.b0.c65⟩) | exact ⟨L.b0.c60, L.b0.c61, L.b0.c62, L.b0.c63, L.b0.c64, L.b0.c65, L.tl.b0.c60, L.tl.b0.c61, L.tl.b0.c62, L.tl.b0.c63, L.tl.b0.c64, L.tl.b0.c65⟩) (fun hHeld2 => ?_)
                            clear hK K hHeld
                            have hHeld := hHeld2
                            clear hHeld2
                            (try simp only [Act.put, List.setIfInBounds_toArray, List.set_cons_zero, List.set_cons_succ])
                            refine wpAnyH_take (i := 13) (oi := { dst := some 73, op := _, type := _, pos := _, after := _, guard := _ }) (v := ?vqytxx13) rfl (by kernel_rfl) (by kernel_rfl) (by kernel_rfl) (fun _ _ _ h => h) (Or.inl ⟨by rfl, ?hyqytxx13⟩) (by assumption) ?restqytxx13
                            case hyqytxx13 => (intro w hSw; (try dsimp only at hSw); go_simp; (try with_reducible rfl))
                            case restqytxx13 =>
                              (try simp only [Act.put, List.setIfInBounds_toArray, List.set_cons_zero, List.set_cons_succ])
                              refine wpAnyH_take (i := 14) (oi := { dst := some 74, op := _, type := _, pos := _, after := _, guard := _ }) (v := ?vqytxx14) rfl (by kernel_rfl) (by kernel_rfl) (by kernel_rfl) (fun _ _ _ h => h) (Or.inl ⟨by rfl, ?hyqytxx14⟩) (by assumption) ?restqytxx14
                              case hyqytxx14 => (intro w hSw; (try dsimp only at hSw); go_simp; (try with_reducible rfl))
                              case restqytxx14 =>
                                (try simp only [Act.put, List.setIfInBounds_toArray, List.set_cons_zero, List.set_cons_succ])
                                refine wpAnyH_take (i := 15) (oi := { dst := some 75, op := _, type := _, pos := _, after := _, guard := _ }) (v := ?vqytxx15) rfl (by kernel_rfl) (by kernel_rfl) (by kernel_rfl) (fun _ _ _ h => h) (Or.inl ⟨by rfl, ?hyqytxx15⟩) (by assumption) ?restqytxx15
                                case hyqytxx15 => (intro w hSw; (try dsimp only at hSw); go_simp; (try with_reducible rfl))
                                case restqytxx15 =>
                                  (try simp only [Act.put, List.setIfInBounds_toArray, List.set_cons_zero, List.set_cons_succ])
                                  refine wpAnyH_done (by kernel_rfl) ?_ _
                                  refine NoPanic.normal ?_
                                  go_wp2_with fail
                                  go_meet
                                  exact ⟨by first | rfl | (simp; done) | (cases SC <;> rfl), L.below⟩
    case rest =>
      obtain ⟨rfl, bw⟩ := hcut
      replace L := LV.out.step bw
      clear LV RRW HVR bw hb7 hb8
      generalize wc = we at *
      have cel00 := L.b0.c60
      have cel01 := L.b0.c61
      have cel02 := L.b0.c62
      have cel03 := L.b0.c63
      have cel04 := L.b0.c64
      have cel05 := L.b0.c65
      (try go_wp2_with fail)
      refine (SR.out _ _ (isI_n (m := M) (e := E) (n := M) (f := E) (s := .slice AM (zl M) cM) (t := .slice AM (zl M) cM) (L.getN (by simp)) (L.getN (by simp)))).mono ?_
      rintro e w51 ⟨rfl, be⟩
      clear cel00 cel01 cel02 cel03 cel04 cel05
      replace L := L.step be
      clear be
      cases SB
      · go_wp2_with fail
        go_ret
        exact ⟨rfl, L.below⟩
      go_wp2_with fail
      refine (MO2.out _).mono ?_
      rintro e9 w' ⟨rfl, rfl⟩
      have cel00 := L.b0.c60
      have cel01 := L.b0.c61
      have cel02 := L.b0.c62
      have cel03 := L.b0.c63
      have cel04 := L.b0.c64
      have cel05 := L.b0.c65
      go_wp2_with fail
      refine (P1.out _ _ _ (isI_n (m := M) (e := E) (n := M) (f := E) (s := .slice AM (zl M) cM) (t := .slice AM (zl M) cM) (L.getN (by simp)) (L.getN (by simp))) (isI_n (m := M) (e := E) (n := M) (f := E) (s := .slice AM (zl M) cM) (t := .slice AM (zl M) cM) (L.getN (by simp)) (L.getN (by simp))) L.below).mono ?_
      rintro e w52 ⟨vv, rfl, ii, be⟩
      clear cel00 cel01 cel02 cel03 cel04 cel05
      obtain ⟨A11, c11, B11, d11, rfl, ia, ib⟩ := ii.form
      replace L := ((L.step be).n ib).n ia
      clear be ii ia ib
      have hlgv10 := L.b0.lt
      replace L := L.varI w52.heap.size rfl (ng M1) A11 (zl M1) c11 E1 (ng N1) B11 (zl N1) d11 G1
      have cel10 := L.tl.b0.c60
      have cel11 := L.tl.b0.c61
      have cel12 := L.tl.b0.c62
      have cel13 := L.tl.b0.c63
      have cel14 := L.tl.b0.c64
      have cel15 := L.tl.b0.c65
      go_wp2_with fail
      obtain ⟨gv1, hg⟩ : ∃ g, w52.heap.size = g := ⟨_, rfl⟩
      rw [hg] at L hlgv10 ⊢
      clear hg
      refine (Q1.out _ _ _ (isI_n (m := M) (e := E) (n := M) (f := E) (s := .slice AM (zl M) cM) (t := .slice AM (zl M) cM) (L.getN (by simp)) (L.getN (by simp))) (isI_n (m := M) (e := E) (n := M) (f := E) (s := .slice AM (zl M) cM) (t := .slice AM (zl M) cM) (L.getN (by simp)) (L.getN (by simp)))).mono ?_
      rintro e w53 ⟨vv, rfl, ii, be⟩
      clear cel10 cel11 cel12 cel13 cel14 cel15
      obtain ⟨A12, c12, B12, d12, rfl, ia, ib⟩ := ii.form
      replace L := ((L.step be).n ib).n ia
      clear be ii ia ib
      have hlgv20 := L.b0.lt
      replace L := L.varI w53.heap.size rfl (ng M1) A12 (zl M1) c12 E1 (ng N1) B12 (zl N1) d12 G1
      have cel20 := L.tl.tl.b0.c60
      have cel21 := L.tl.tl.b0.c61
      have cel22 := L.tl.tl.b0.c62
      have cel23 := L.tl.tl.b0.c63
      have cel24 := L.tl.tl.b0.c64
      have cel25 := L.tl.tl.b0.c65
      go_wp2_with fail
      obtain ⟨gv2, hg⟩ : ∃ g, w53.heap.size = g := ⟨_, rfl⟩
      rw [hg] at L hlgv20 ⊢
      clear hg
      refine (P2.out _ _ _ (isI_n (m := M) (e := E) (n := M) (f := E) (s := .slice AM (zl M) cM) (t := .slice AM (zl M) cM) (L.getN (by simp)) (L.getN (by simp))) (isI_n (m := M) (e := E) (n := M) (f := E) (s := .slice AM (zl M) cM) (t := .slice AM (zl M) cM) (L.getN (by simp)) (L.getN (by simp))) L.below).mono ?_
      rintro e w54 ⟨vv, rfl, ii, be⟩
      clear cel20 cel21 cel22 cel23 cel24 cel25
      obtain ⟨A13, c13, B13, d13, rfl, ia, ib⟩ := ii.form
      replace L := ((L.step be).n ib).n ia
      clear be ii ia ib
      have hlgv30 := L.b0.lt
      replace L := L.varI w54.heap.size rfl (ng M2) A13 (zl M2) c13 E2 (ng N2) B13 (zl N2) d13 G2
      have cel30 := L.tl.tl.tl.b0.c60
      have cel31 := L.tl.tl.tl.b0.c61
      have cel32 := L.tl.tl.tl.b0.c62
      have cel33 := L.tl.tl.tl.b0.c63
      have cel34 := L.tl.tl.tl.b0.c64
      have cel35 := L.tl.tl.tl.b0.c65
      go_wp2_with fail
      obtain ⟨gv3, hg⟩ : ∃ g, w54.heap.size = g := ⟨_, rfl⟩
      rw [hg] at L hlgv30 ⊢
      clear hg
      refine (Q2.out _ _ _ (isI_n (m := M) (e := E) (n := M) (f := E) (s := .slice AM (zl M) cM) (t := .slice AM (zl M) cM) (L.getN (by simp)) (L.getN (by simp))) (isI_n (m := M) (e := E) (n := M) (f := E) (s := .slice AM (zl M) cM) (t := .slice AM (zl M) cM) (L.getN (by simp)) (L.getN (by simp)))).mono ?_
      rintro e w55 ⟨vv, rfl, ii, be⟩
      clear cel30 cel31 cel32 cel33 cel34 cel35
      obtain ⟨A14, c14, B14, d14, rfl, ia, ib⟩ := ii.form
      replace L := ((L.step be).n ib).n ia
      clear be ii ia ib
      have hlgv40 := L.b0.lt
      replace L := L.varI w55.heap.size rfl (ng M2) A14 (zl M2) c14 E2 (ng N2) B14 (zl N2) d14 G2
      have cel20 := L.tl.tl.b0.c60
      have cel21 := L.tl.tl.b0.c61
      have cel22 := L.tl.tl.b0.c62
      have cel23 := L.tl.tl.b0.c63
      have cel24 := L.tl.tl.b0.c64
      have cel25 := L.tl.tl.b0.c65
      have cel30 := L.tl.tl.tl.b0.c60
      have cel31 := L.tl.tl.tl.b0.c61
      have cel32 := L.tl.tl.tl.b0.c62
      have cel33 := L.tl.tl.tl.b0.c63
      have cel34 := L.tl.tl.tl.b0.c64
      have cel35 := L.tl.tl.tl.b0.c65
      go_wp2_with fail
      obtain ⟨gv4, hg⟩ : ∃ g, w55.heap.size = g := ⟨_, rfl⟩
      rw [hg] at L hlgv40 ⊢
      clear hg
      refine (S1.out _ _ _ (isI_n (m := M1) (e := E1) (n := N1) (f := G1) (s := .slice A11 (zl M1) c11) (t := .slice B11 (zl N1) d11) (L.getN (by simp)) (L.getN (by simp))) (isI_n (m := M1) (e := E1) (n := N1) (f := G1) (s := .slice A12 (zl M1) c12) (t := .slice B12 (zl N1) d12) (L.getN (by simp)) (L.getN (by simp)))).mono ?_
      rintro e w56 ⟨rfl, be⟩
      clear cel20 cel21 cel22 cel23 cel24 cel25 cel30 cel31 cel32 cel33 cel34 cel35
      replace L := L.step be
      clear be
      have cel00 := L.b0.c60
      have cel01 := L.b0.c61
      have cel02 := L.b0.c62
      have cel03 := L.b0.c63
      have cel04 := L.b0.c64
      have cel05 := L.b0.c65
      have cel10 := L.tl.b0.c60
      have cel11 := L.tl.b0.c61
      have cel12 := L.tl.b0.c62
      have cel13 := L.tl.b0.c63
      have cel14 := L.tl.b0.c64
      have cel15 := L.tl.b0.c65
      go_wp2_with fail
      refine (S2.out _ _ _ (isI_n (m := M2) (e := E2) (n := N2) (f := G2) (s := .slice A13 (zl M2) c13) (t := .slice B13 (zl N2) d13) (L.getN (by simp)) (L.getN (by simp))) (isI_n (m := M2) (e := E2) (n := N2) (f := G2) (s := .slice A14 (zl M2) c14) (t := .slice B14 (zl N2) d14) (L.getN (by simp)) (L.getN (by simp)))).mono ?_
      rintro e w57 ⟨rfl, be⟩
      clear cel00 cel01 cel02 cel03 cel04 cel05 cel10 cel11 cel12 cel13 cel14 cel15
      replace L := L.step be
      clear be
      go_wp2_with fail
      go_ret
      exact ⟨rfl, L.below⟩

end Go.Proofs.YtoobcngbnjeddaaGreatDoor
