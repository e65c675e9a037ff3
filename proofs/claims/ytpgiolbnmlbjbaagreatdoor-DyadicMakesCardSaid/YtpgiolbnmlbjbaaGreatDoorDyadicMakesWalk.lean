/- The walk of DyadicMakes: whatever the input, the law returns true and turns nothing that was there. -/
import Derived.Test.YtpgiolbnmlbjbaaGreatDoorAwake8
import Derived.Test.YtpgiolbnmlbjbaaGreatDoorMillDy
import Derived.Test.YtpgiolbnmlbjbaaGreatDoorDyLaw
import Derived.Test.YtpgiolbnmlbjbaaGreatDoorRefDyE
import Derived.Deep.RegionHeld3
import Derived.Deep.DrawnRows
import Derived.Deep.Cut
import Derived.Deep.CutRange
namespace Go.Proofs.YtpgiolbnmlbjbaaGreatDoor
open Go.RowKit
set_option linter.unusedVariables false
set_option linter.unusedSimpArgs false
set_option maxRecDepth 100000
attribute [local go_sem ↓] Go.wp_at_zero Go.wp_at_succ

theorem dv_valid8 {m e : Int} (h : Dv m e) : (if m = 0 then decide (e = 0) else fits8 m e) = true := by
  rcases h with ⟨h1, h2⟩ | ⟨h1, h2⟩
  · rw [if_pos h1]; exact decide_eq_true h2
  · rw [if_neg h1]; exact h2

set_option maxHeartbeats 8000000 in
theorem walk_DyadicMakes (b0 : Bool) (a0 : Option Addr) (len0 cap0 : Nat) (z0 : List Nat) (f0 : Int) (b1 : Bool) (a1 : Option Addr) (len1 cap1 : Nat) (z1 : List Nat) (a2 : Int) (a3 : Int) (a4 : Int) (w : World) (h0 : Sl w a0 len0 cap0 z0) (u0 : -9223372036854775808 ≤ f0) (t0 : f0 ≤ 9223372036854775807) (h1 : Sl w a1 len1 cap1 z1) (h2 : -9223372036854775808 ≤ a2 ∧ a2 ≤ 9223372036854775807) (h3 : -9223372036854775808 ≤ a3 ∧ a3 ≤ 9223372036854775807) (h4 : -9223372036854775808 ≤ a4 ∧ a4 ≤ 9223372036854775807) (hT : Tab w) (hP : Pow10 w) :
    Calls Tryz.prog 3 #[.agg #[.bool b0, .slice a0 len0 cap0, .int .i64 f0], .agg #[.bool b1, .slice a1 len1 cap1], .int .i64 a2, .int .i64 a3, .int .i64 a4] w (fun e w' => e = .returned (.bool true) ∧ Below w.heap.size w w') := by
  obtain ⟨r1, hr1⟩ : ∃ r : Nat, a2 % 200 = (r : Int) := ⟨(a2 % 200).toNat, by omega⟩
  obtain ⟨r2, hr2⟩ : ∃ r : Nat, a2 % 120 = (r : Int) := ⟨(a2 % 120).toNat, by omega⟩
  obtain ⟨p, hp⟩ : ∃ r : Nat, a3 % 100 = (r : Int) := ⟨(a3 % 100).toNat, by omega⟩
  have m1 := fun W => mod_any a2 200 W (by omega) (by omega) h2.1 h2.2
  have m2 := fun W => mod_any a2 120 W (by omega) (by omega) h2.1 h2.2
  have m3 := fun W => mod_any a3 100 W (by omega) (by omega) h3.1 h3.2
  rw [hr1] at m1
  rw [hr2] at m2
  rw [hp] at m3
  have MO1 := Lib.hid m1
  have MO2 := Lib.hid m2
  have MO3 := Lib.hid m3
  have hr13 : r1 < 200 := by omega
  have hr23 : r2 < 120 := by omega
  have hp3 : p < 100 := by omega
  clear m1 m2 m3 hr1 hr2 hp h3
  go_enter Tryz.func3, Tryz.ntmps3
  go_wp2_with fail
  have L := (((Lq.mk0 w).varD (w.heap.size) (by simp) b0 a0 len0 cap0 f0).varZ (w.heap.size + 1) (by simp) b1 a1 len1 cap1)
  (try go_wp2_with fail)
  refine (awake8_any _ (hT.mono L.below) (hP.mono L.below)).mono ?_
  rintro e w1 ⟨rfl, be⟩
  replace L := L.step be
  clear be
  have c00 := L.b0.c20
  have c01 := L.b0.c21
  have c10 := L.tl.b0.c30
  have c11 := L.tl.b0.c31
  have c12 := L.tl.b0.c32
  go_wp2_with fail
  refine (millZ_any b1 z1 20 a1 len1 cap1 _ (h1.mono L.below) (by omega)).mono ?_
  rintro e9 w2 ⟨vx, ok, x, rfl, ix, lx, be⟩
  clear c00 c01 c10 c11 c12
  replace L := (L.step be).z ix
  obtain ⟨A, c, rfl, _⟩ := ix.form
  clear be ix
  have hlt0 := L.b0.lt
  have hlt1 := L.tl.b0.lt
  replace L := L.varZ w2.heap.size rfl (ng x) A (zl x) c
  cases ok
  · go_wp2_with fail
    go_ret
    exact ⟨rfl, L.below⟩
  have c00 := L.b0.c20
  have c01 := L.b0.c21
  have c10 := L.tl.b0.c20
  have c11 := L.tl.b0.c21
  have c20 := L.tl.tl.b0.c30
  have c21 := L.tl.tl.b0.c31
  have c22 := L.tl.tl.b0.c32
  by_cases hl40 : 40 < len0
  · have hd : decide ((40 : Int) < (len0 : Int)) = true := decide_eq_true (by omega)
    go_wp2_with fail
    go_ret
    exact ⟨rfl, L.below⟩
  · have hd : decide ((40 : Int) < (len0 : Int)) = false := decide_eq_false (by omega)
    go_wp2_with fail
    obtain ⟨g, hg⟩ : ∃ g, w2.heap.size = g := ⟨_, rfl⟩
    rw [hg] at L hlt0 hlt1 c00 c01 ⊢
    clear hg
    clear c00 c01 c10 c11 c20 c21 c22
    have lX := zl_two x p
    have sh := fun v W h => rzshl_any x v W h (by omega) p (by omega)
    obtain ⟨X, hX⟩ : ∃ X, x * 2 ^ p = X := ⟨_, rfl⟩
    rw [hX] at lX sh
    have SH := Lib.hid sh
    have hXl : zl X ≤ 100 := by omega
    have hga : w.heap.size ≤ g := by omega
    clear sh hX lX
    have LD := L.drew
    have c00 := L.b0.c20
    have c01 := L.b0.c21
    have c10 := L.tl.b0.c20
    have c11 := L.tl.b0.c21
    have c20 := L.tl.tl.b0.c30
    have c21 := L.tl.tl.b0.c31
    have c22 := L.tl.tl.b0.c32
    go_cut [12] from 35 to 39 (fun s12 wx => s12 = .bool true ∧ ∃ A9 c9, Lq w wx [] [(.agg #[.bool (ng X), .slice A9 (zl X) c9], X)] [] [(g, 24, #[.bool (ng X), .slice A9 (zl X) c9]), (w.heap.size, 26, #[.bool b0, .slice a0 len0 cap0, .int .i64 f0])])
    case first =>
      go_region_with (first | (go_at_call 13; (with_reducible refine (MO3.out _).mono ?_); rintro e9 wh ⟨rfl, rfl⟩) | (go_at_call 12; (with_reducible refine (SH.out _ _ ?_).mono ?_); (· (refine LD.getZ ?_; (repeat (first | (with_reducible exact List.mem_cons_self) | apply List.mem_cons_of_mem)))); rintro e9 wh ⟨vh, rfl, iz, be⟩; replace LD := (LD.step be).z iz; obtain ⟨A9, c9, rfl, _⟩ := iz.form; clear be iz; (try (have r0 := LD.b0.c20; have r1 := LD.b0.c21; have s0 := LD.b0.fr 0; have s1 := LD.b0.fr 1))))
      all_goals
        have LP := LD.putZ hga (by first | (simp; done) | (simp; omega)) (ng X) A9 (zl X) c9
        unfold put2 at LP
        go_wp2_with fail
        go_meet
        exact ⟨rfl, _, _, ((((Lq.mk0 w).step LP.below).z LP.hz).b LP.tl.tl.b0).b LP.b0⟩
    case rest =>
      clear L LD SH
      obtain ⟨rfl, A, c, L⟩ := hcut
      generalize wc = wd at *
      have hwa : IntKind.i64.wrap ((r1 : Int) - 100) = (r1 : Int) - 100 := by rw [IntKind.wrap_i64]; omega
      have hwb : IntKind.i64.wrap (65536 - (r1 : Int)) = 65536 - (r1 : Int) := by rw [IntKind.wrap_i64]; omega
      have hwc : IntKind.i64.wrap (-65536 - (r2 : Int)) = -65536 - (r2 : Int) := by rw [IntKind.wrap_i64]; omega
      go_wp2_with fail
      refine (MO1.out _).mono ?_
      rintro e9 w' ⟨rfl, rfl⟩
      go_wp2_with fail
      refine (MO1.out _).mono ?_
      rintro e9 w' ⟨rfl, rfl⟩
      go_wp2_with fail
      refine (MO2.out _).mono ?_
      rintro e9 w' ⟨rfl, rfl⟩
      go_wp2_with fail
      obtain ⟨gs, hgs⟩ : ∃ gs, wd.heap.size = gs := ⟨_, rfl⟩
      obtain ⟨V, hV⟩ : ∃ V, wd.alloc (.cells #[.int .i64 a2, .int .i64 ((r1 : Int) - 100), .int .i64 (65536 - (r1 : Int)), .int .i64 131072, .int .i64 (-65536 - (r2 : Int))] 3) = V := ⟨_, rfl⟩
      have hrow : V.heap[gs]? = some (.cells #[.int .i64 a2, .int .i64 ((r1 : Int) - 100), .int .i64 (65536 - (r1 : Int)), .int .i64 131072, .int .i64 (-65536 - (r2 : Int))] 3 (0, 0)) := by rw [← hV, ← hgs]; exact heap_alloc_new wd _
      have hgl : gs < V.heap.size := by rw [← hV, ← hgs]; simp
      replace L := L.step ((Below.refl wd.heap.size wd).alloc (Nat.le_refl _) (.cells #[.int .i64 a2, .int .i64 ((r1 : Int) - 100), .int .i64 (65536 - (r1 : Int)), .int .i64 131072, .int .i64 (-65536 - (r2 : Int))] 3))
      rw [hV] at L ⊢
      rw [hgs]
      have HB0 := Lib.hid L.below
      have HCE := Lib.hid (fun (wr : World) (hW : Below V.heap.size V wr) (t : Nat) (ht : t < 5) => (show ∃ N : Int, wr.cell? ⟨gs, t, none⟩ = some (.int .i64 N) from by
        have h1 : wr.heap[gs]? = some (.cells #[.int .i64 a2, .int .i64 ((r1 : Int) - 100), .int .i64 (65536 - (r1 : Int)), .int .i64 131072, .int .i64 (-65536 - (r2 : Int))] 3 (0, 0)) := by rw [hW.block gs hgl]; exact hrow
        rcases (show t = 0 ∨ t = 1 ∨ t = 2 ∨ t = 3 ∨ t = 4 by omega) with rfl | rfl | rfl | rfl | rfl
        · exact ⟨_, cell_of_row wr gs 0 _ _ _ h1⟩
        · exact ⟨_, cell_of_row wr gs 1 _ _ _ h1⟩
        · exact ⟨_, cell_of_row wr gs 2 _ _ _ h1⟩
        · exact ⟨_, cell_of_row wr gs 3 _ _ _ h1⟩
        · exact ⟨_, cell_of_row wr gs 4 _ _ _ h1⟩))
      have GX := Lib.hid (fun (wr : World) (hW : Below V.heap.size V wr) => (L.getZ (v := .agg #[.bool (ng X), .slice A (zl X) c]) (x := X) (by simp)).mono hW)
      have VX := Lib.hid (fun (wr : World) (hW : Below V.heap.size V wr) => L.b0.mono hW)
      have VR := Lib.hid (fun (wr : World) (hW : Below V.heap.size V wr) => L.tl.b0.mono hW)
      have hwV := L.below.size
      have hWW := Lib.hid (fun (wr : World) (hW : Below V.heap.size V wr) => L.below.trans (hW.mono hwV))
      clear hV hrow hgl hgs L MO1 MO2 MO3 hwa hwb hwc hr13 hr23 hp3
      go_loopw [51] (fun i wr => ∃ t : Nat, i = .int .i64 (t : Int) ∧ t ≤ 5 ∧ Below V.heap.size V wr) (fun i _ => 5 - (intOf i).toNat)
      case atStart => exact ⟨0, rfl, by omega, Below.refl _ _⟩
      case round =>
        obtain ⟨t, rfl, ht, hbe⟩ := hrel
        have hbs := hbe.size
        have hVX := VX.out wr hbe
        have hVR := VR.out wr hbe
        have L : Lq wr wr [] [(.agg #[.bool (ng X), .slice A (zl X) c], X)] [] [(g, 24, #[.bool (ng X), .slice A (zl X) c]), (w.heap.size, 26, #[.bool b0, .slice a0 len0 cap0, .int .i64 f0])] := (((Lq.mk0 wr).z (GX.out wr hbe)).b hVR).b hVX
        have hl0 := hVX.lt
        have hl1 := hVR.lt
        clear hVX hVR
        have HW0 := Lib.hid (fun W (hW : Below wr.heap.size wr W) => (hWW.out wr hbe).trans (hW.mono (hWW.out wr hbe).size))
        rcases Nat.eq_or_lt_of_le ht with rfl | ht3
        · have v1 := fun W (hW : Below wr.heap.size wr W) => dvalid_any b0 z0 a0 len0 cap0 f0 W (h0.mono (HW0.out W hW)) (by omega)
          have v2 := fun W (hW : Below wr.heap.size wr W) => rvalid8_any b0 z0 a0 len0 cap0 f0 W (h0.mono (HW0.out W hW)) (by omega)
          generalize dval b0 z0 f0 = dv at *
          have O1 := fun W (hW : Below wr.heap.size wr W) => dof_any a4 W h4.1 h4.2 (hT.mono (HW0.out W hW))
          have O2 := fun W => rof8_any a4 W h4.1 h4.2
          have s8 := fun v u W h1 h2 => same8_any (mkM a4 0) (mkE a4 0) (mkM a4 0) (mkE a4 0) v u W h1 h2
          rw [decide_eq_true (rfl : mkM a4 0 = mkM a4 0), decide_eq_true (rfl : mkE a4 0 = mkE a4 0), Bool.true_and] at s8
          generalize mkM a4 0 = M at *
          generalize mkE a4 0 = E at *
          have H1 := Lib.hid v1
          have H2 := Lib.hid v2
          have H3 := Lib.hid O1
          have H4 := Lib.hid O2
          have H5 := Lib.hid s8
          clear v1 v2 O1 O2 s8
          go_wp2_with fail
          replace L := L.drew
          have c00 := L.b0.c20
          have c01 := L.b0.c21
          have c10 := L.tl.b0.c30
          have c11 := L.tl.b0.c31
          have c12 := L.tl.b0.c32
          go_region_held3 (fun w' => w'.cell? ⟨w.heap.size, 0, none⟩ = some (.bool b0) ∧ w'.cell? ⟨w.heap.size, 1, none⟩ = some (.slice a0 len0 cap0) ∧ w'.cell? ⟨w.heap.size, 2, none⟩ = some (.int .i64 f0)) (first | (with_reducible exact ⟨L.tl.b0.c30, L.tl.b0.c31, L.tl.b0.c32⟩) | exact ⟨L.tl.b0.c30, L.tl.b0.c31, L.tl.b0.c32⟩) (first | (go_at_call 17; (with_reducible refine (H1.out _ ?_ ).mono ?_); (· exact L.below); rintro e wh ⟨rfl, be⟩; replace L := L.step be; clear be) | (go_at_call 18; (with_reducible refine (H2.out _ ?_ ).mono ?_); (· exact L.below); rintro e wh ⟨rfl, be⟩; replace L := L.step be; clear be) | (go_at_call 19; (with_reducible refine (H3.out _ ?_ ).mono ?_); (· exact L.below); rintro e wh ⟨vh, rfl, id, be⟩; obtain ⟨A9, c9, rfl, _, in9⟩ := id.form; replace L := (L.step be).n in9; clear be id in9) | (go_at_call 20; (with_reducible refine (H4.out _ ).mono ?_); rintro e wh ⟨vh, rfl, id, be⟩; obtain ⟨A9, c9, rfl, _, in9⟩ := id.form; replace L := (L.step be).n in9; clear be id in9) | (go_at_call 16; (with_reducible refine (H5.out _ _ _ ?_ ?_ ).mono ?_); (· (refine isD_n (L.getN ?_); (repeat (first | (with_reducible exact List.mem_cons_self) | apply List.mem_cons_of_mem)))); (· (refine isD_n (L.getN ?_); (repeat (first | (with_reducible exact List.mem_cons_self) | apply List.mem_cons_of_mem)))); rintro e wh ⟨rfl, be⟩; replace L := L.step be; clear be))
          clear c00 c01 c10 c11 c12
          go_wp2_with fail
          go_ret
          exact ⟨rfl, HW0.out _ L.below⟩
        · obtain ⟨N, hN⟩ := HCE.out wr hbe t ht3
          have hlt : (t : Int) < 5 := by omega
          have ht0 : (0 : Int) ≤ (t : Int) := by omega
          have p1 := fun v W h (hW : Below wr.heap.size wr W) => dmake_any X N v W h (by omega) (hT.mono (HW0.out W hW))
          have p2 := fun v W h => rmake8_any X N v W h (by omega)
          have s8 := fun v u W h1 h2 => same8_any (mkM X N) (mkE X N) (mkM X N) (mkE X N) v u W h1 h2
          rw [decide_eq_true (rfl : mkM X N = mkM X N), decide_eq_true (rfl : mkE X N = mkE X N), Bool.true_and] at s8
          have z1 := zl_mk X N
          have v1 := fun v W h => dvalid_d (mkM X N) (mkE X N) v W h (by omega)
          have hV := Lib.hid (fun h => dv_valid8 (mk_ok (m := X) (e := N) h))
          generalize mkM X N = M at *
          generalize mkE X N = E at *
          generalize mkR X N = R at *
          have H1 := Lib.hid p1
          have H2 := Lib.hid p2
          have H3 := Lib.hid s8
          have hE1 : (R == R) = true := by simp
          have hE2 : (R != R) = false := by simp
          clear p1 p2 s8 z1
          have c00 := L.b0.c20
          have c01 := L.b0.c21
          have c10 := L.tl.b0.c30
          have c11 := L.tl.b0.c31
          have c12 := L.tl.b0.c32
          go_wp2_with fail
          refine (H1.out _ _ (L.getZ (by simp)) L.below).mono ?_
          rintro e w31 ⟨vy, rfl, id, be⟩
          clear c00 c01 c10 c11 c12
          obtain ⟨A3, c3, rfl, _, in9⟩ := id.form
          replace L := (L.step be).n in9
          clear be id in9
          replace L := L.varD w31.heap.size rfl (ng M) A3 (zl M) c3 E
          have c00 := L.b0.c30
          have c01 := L.b0.c31
          have c02 := L.b0.c32
          have c10 := L.tl.b0.c20
          have c11 := L.tl.b0.c21
          have c20 := L.tl.tl.b0.c30
          have c21 := L.tl.tl.b0.c31
          have c22 := L.tl.tl.b0.c32
          go_wp2_with fail
          obtain ⟨g3, hg⟩ : ∃ g, w31.heap.size = g := ⟨_, rfl⟩
          rw [hg] at L c00 c01 c02 ⊢
          clear hg
          refine (H2.out _ _ (L.getZ (by simp))).mono ?_
          rintro e w32 ⟨vy, rfl, id, be⟩
          clear c00 c01 c02 c10 c11 c20 c21 c22
          obtain ⟨A4, c4, rfl, _, in9⟩ := id.form
          replace L := (L.step be).n in9
          clear be id in9
          replace L := L.varD w32.heap.size rfl (ng M) A4 (zl M) c4 E
          have c00 := L.b0.c30
          have c01 := L.b0.c31
          have c02 := L.b0.c32
          have c10 := L.tl.b0.c30
          have c11 := L.tl.b0.c31
          have c12 := L.tl.b0.c32
          have c20 := L.tl.tl.b0.c20
          have c21 := L.tl.tl.b0.c21
          have c30 := L.tl.tl.tl.b0.c30
          have c31 := L.tl.tl.tl.b0.c31
          have c32 := L.tl.tl.tl.b0.c32
          go_wp2_with fail
          obtain ⟨g4, hg⟩ : ∃ g, w32.heap.size = g := ⟨_, rfl⟩
          rw [hg] at L c00 c01 c02 ⊢
          clear hg
          refine (H3.out _ _ _ (isD_n (s := .slice A3 (zl M) c3) (L.getN (by simp))) (isD_n (s := .slice A4 (zl M) c4) (L.getN (by simp)))).mono ?_
          rintro e w33 ⟨rfl, be⟩
          clear c00 c01 c02 c10 c11 c12 c20 c21 c30 c31 c32
          replace L := L.step be
          clear be
          have c00 := L.b0.c30
          have c01 := L.b0.c31
          have c02 := L.b0.c32
          have c10 := L.tl.b0.c30
          have c11 := L.tl.b0.c31
          have c12 := L.tl.b0.c32
          have c20 := L.tl.tl.b0.c20
          have c21 := L.tl.tl.b0.c21
          have c30 := L.tl.tl.tl.b0.c30
          have c31 := L.tl.tl.tl.b0.c31
          have c32 := L.tl.tl.tl.b0.c32
          by_cases hR : R = 0
          · subst hR
            rw [hV.out rfl] at v1
            have H4 := Lib.hid v1
            clear v1 hV
            go_wp2_with fail
            refine (H4.out _ _ (isD_n (s := .slice A3 (zl M) c3) (L.getN (by simp)))).mono ?_
            rintro e w34 ⟨rfl, be⟩
            clear c00 c01 c02 c10 c11 c12 c20 c21 c30 c31 c32
            replace L := L.step be
            clear be
            go_wp2_with fail
            go_roundw
            case rel => exact ⟨t + 1, by go_num, by omega, hbe.trans (L.below.mono hbs)⟩
            case measure => simp [intOf]; omega
          · have hb2 : (R == 0) = false := by simpa using hR
            clear hV v1
            go_wp2_with fail
            go_roundw
            case rel => exact ⟨t + 1, by go_num, by omega, hbe.trans (L.below.mono hbs)⟩
            case measure => simp [intOf]; omega

end Go.Proofs.YtpgiolbnmlbjbaaGreatDoor
