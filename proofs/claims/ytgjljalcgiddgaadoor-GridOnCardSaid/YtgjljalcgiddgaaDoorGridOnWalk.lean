/- The walk of GridOn: whatever the input, the law returns true and turns nothing that was there. -/
import Derived.Test.YtgjljalcgiddgaaDoorAwake9
import Derived.Test.YtgjljalcgiddgaaDoorGrApp
import Derived.Test.YtgjljalcgiddgaaDoorBaseE
import Derived.Test.YtgjljalcgiddgaaDoorBaseM
import Derived.Deep.RegionHeld3
import Derived.Deep.DrawnRows
import Derived.Deep.Cut
import Derived.Deep.CutRange
import Derived.Deep.RegionLawGrows
namespace Go.Proofs.YtgjljalcgiddgaaDoor
open Go.RowKit
set_option linter.unusedVariables false
set_option linter.unusedSimpArgs false
set_option maxRecDepth 100000
attribute [local go_sem ↓] Go.wp_at_zero Go.wp_at_succ

set_option maxHeartbeats 8000000 in
theorem walk_GridOn (b0 : Bool) (a0 : Option Addr) (len0 cap0 : Nat) (z0 : List Nat) (f0 : Int) (a1 : Int) (w : World) (h0 : Sl w a0 len0 cap0 z0) (u0 : -9223372036854775808 ≤ f0) (t0 : f0 ≤ 9223372036854775807) (h1 : -9223372036854775808 ≤ a1 ∧ a1 ≤ 9223372036854775807) (hT : Tab w) :
    Calls Tryd.prog 5 #[.agg #[.bool b0, .slice a0 len0 cap0, .int .i64 f0], .int .i64 a1] w (fun e w' => e = .returned (.bool true) ∧ Below w.heap.size w w') := by
  go_enter Tryd.func5, Tryd.ntmps5
  go_wp2_with fail
  have L := ((Lq.mk0 w).varD (w.heap.size) (by simp) b0 a0 len0 cap0 f0)
  (try go_wp2_with fail)
  refine (awake9_any _ (hT.mono L.below)).mono ?_
  rintro e9 w1 ⟨rfl, be⟩
  replace L := L.step be
  clear be
  have c00 := L.b0.c30
  have c01 := L.b0.c31
  have c02 := L.b0.c32
  (try go_wp2_with fail)
  refine (millD_any b0 z0 8 300 a0 len0 cap0 f0 _ (h0.mono L.below) (by omega) (by omega) u0 t0).mono ?_
  rintro e9 w2 ⟨vx, ok, m, e, rfl, ix, lm, he1, he2, hv, be⟩
  clear c00 c01 c02
  obtain ⟨A, c, rfl, izx, inx⟩ := ix.form
  replace L := ((L.step be).n inx).z izx
  clear be ix izx inx
  have hlt0 := L.b0.lt
  replace L := L.varD w2.heap.size rfl (ng m) A (zl m) c e
  cases ok
  · go_wp2_with fail
    go_ret
    exact ⟨rfl, L.below⟩
  · have HV := Lib.hid (hv rfl)
    clear hv
    clear HV
    go_wp2_with fail
    obtain ⟨g, hg⟩ : ∃ g, w2.heap.size = g := ⟨_, rfl⟩
    rw [hg] at L hlt0 ⊢
    clear hg
    obtain ⟨V, hV⟩ : ∃ V, w2.alloc (.cells #[.bool (ng m), .slice A (zl m) c, .int .i64 e] 26) = V := ⟨_, rfl⟩
    rw [hV] at L ⊢
    clear hV
    have hwe : IntKind.i64.wrap (-e) = -e := by rw [IntKind.wrap_i64]; omega
    have hwf : IntKind.i64.wrap (-e - 1) = -e - 1 := by rw [IntKind.wrap_i64]; omega
    have hwh : IntKind.i64.wrap (1 - e) = 1 - e := by rw [IntKind.wrap_i64]; omega
    have hPP : ∀ N ∈ [-e, -e - 1, 1 - e], -9223372036854775808 ≤ N ∧ N ≤ 9223372036854775807 := by
      intro N hN
      simp only [List.mem_cons, List.not_mem_nil, or_false] at hN
      rcases hN with rfl | rfl | rfl <;> omega
    have HPP := Lib.hid hPP
    clear hPP
    have HPR := Lib.hid (fun W => prec_any a1 W h1.1 h1.2)
    have HX := Lib.hid (fun Z (hZ : Below V.heap.size V Z) => L.b0.mono hZ)
    have LL := Lib.hid L
    have x2 := L.b0.c32
    have x3 := L.drew.b0.c32
    clear L
    go_cut [35, 36, 37] from 22 to 35 (fun s35 s36 s37 wx => ∃ gs cap, s35 = .slice (some ⟨gs, 0, none⟩) 8 cap ∧ s36 = .int .i64 8 ∧ s37 = .int .i64 0 ∧ gs < wx.heap.size ∧ (∀ t : Nat, t < 8 → ∃ N : Int, wx.cell? ⟨gs, t, none⟩ = some (.int .i64 N) ∧ -9223372036854775808 ≤ N ∧ N ≤ 9223372036854775807) ∧ Below V.heap.size V wx)
    case first =>
      go_region_law (first
        | (first
            | refine step_app3 rfl (.tmp 23) (.tmp 34) rfl gp wh.heap.size N0 N1 N2 N3 N4 (-e) (-e - 1) (1 - e) rfl ?_ rfl ?_ ?_
            | refine step_app3 rfl (.tmp 23) (.tmp 34) rfl gp V.heap.size N0 N1 N2 N3 N4 (-e) (-e - 1) (1 - e) rfl ?_ rfl ?_ ?_
           · first | exact hrow | (rw [((Below.refl wh.heap.size wh).alloc (Nat.le_refl _) _).block gp (row_lt hrow)]; exact hrow)
           · first | exact heap_alloc_new wh _ | (rw [be.block V.heap.size (by simp)]; exact heap_alloc_new _ _)
           intro gs cap w' hgl hgc hgb)
        | (go_simp
           go_at_call 9
           refine (HPR.out _).mono ?_
           rintro e9 wh ⟨gp, N0, N1, N2, N3, N4, rfl, hgp, hrow, hNN, be⟩
           have b9 : Below V.heap.size V wh := by
             first
             | exact ((Below.refl _ _).drew).trans be
             | exact ((((Below.refl V.heap.size V).drew).alloc (Nat.le_refl _) _).trans (be.mono (by simp)))
           have x2 := (HX.out wh b9).c32))
      all_goals
        go_wp2_with fail
        go_meet
        refine ⟨gs, cap, rfl, rfl, rfl, hgl, app_cells hgc hNN HPP.out, ?_⟩
        first
        | exact b9.trans (hgb.mono b9.size)
        | exact (b9.alloc b9.size _).trans (hgb.mono (b9.alloc b9.size _).size)
    case rest =>
      obtain ⟨gs, cap, rfl, rfl, rfl, hgl, hgc, bw⟩ := hcut
      have L := LL.out.step bw
      clear LL HX HPR HPP hwe hwf hwh x2 x3 bw
      generalize wc = wd at *
      have HCE := Lib.hid (fun (wr : World) (hW : Below wd.heap.size wd wr) (t : Nat) (ht : t < 8) => (show ∃ N : Int, wr.cell? ⟨gs, t, none⟩ = some (.int .i64 N) ∧ -9223372036854775808 ≤ N ∧ N ≤ 9223372036854775807 from by
        obtain ⟨N, k1, k2⟩ := hgc t ht
        exact ⟨N, (hW.cell (p := ⟨gs, t, none⟩) hgl).trans k1, k2⟩))
      have GX := Lib.hid (fun (wr : World) (hW : Below wd.heap.size wd wr) => (L.getN (v := .slice A (zl m) c) (x := m.natAbs) (by simp)).mono hW)
      have VX := Lib.hid (fun (wr : World) (hW : Below wd.heap.size wd wr) => L.b0.mono hW)
      have hwV := L.below.size
      have hWW := Lib.hid (fun (wr : World) (hW : Below wd.heap.size wd wr) => L.below.trans (hW.mono hwV))
      clear hgc hgl L
      (try go_wp2_with fail)
      go_loopw [37] (fun i wr => ∃ t : Nat, i = .int .i64 (t : Int) ∧ t ≤ 8 ∧ Below wd.heap.size wd wr) (fun i _ => 8 - (intOf i).toNat)
      case atStart => exact ⟨0, rfl, by omega, Below.refl _ _⟩
      case round =>
        obtain ⟨t, rfl, ht, hbe⟩ := hrel
        have hbs := hbe.size
        have L : Lq wr wr [(.slice A (zl m) c, m.natAbs)] [] [] [(g, 26, #[.bool (ng m), .slice A (zl m) c, .int .i64 e])] := ((Lq.mk0 wr).n (GX.out wr hbe)).b (VX.out wr hbe)
        have HW0 := Lib.hid (fun W (hW : Below wr.heap.size wr W) => (hWW.out wr hbe).trans (hW.mono (hWW.out wr hbe).size))
        rcases Nat.eq_or_lt_of_le ht with rfl | ht3
        · go_wp2_with fail
          go_ret
          exact ⟨rfl, HW0.out _ L.below⟩
        · obtain ⟨N, hN, hNa, hNb⟩ := HCE.out wr hbe t ht3
          have hlt : (t : Int) < 8 := by omega
          have ht0 : (0 : Int) ≤ (t : Int) := by omega
          have p1 := fun W (hW : Below wr.heap.size wr W) => gunit_any N W hNa hNb (hT.mono (HW0.out W hW))
          have r1 := fun W => runit9_any N W hNa hNb
          have o1 := fun v W h => gon_any m e N v W h (by omega) hNa hNb
          have o2 := fun v W h => ron9_any m e N v W h hNa hNb
          have s1 := fun v u W h1 h2 => same8_any (gM (1) N) (gE (1) N) (gM (1) N) (gE (1) N) v u W h1 h2
          rw [decide_eq_true (rfl : gM (1) N = gM (1) N), decide_eq_true (rfl : gE (1) N = gE (1) N), Bool.true_and] at s1
          generalize gM (1) N = M1 at *
          generalize gE (1) N = E1 at *
          generalize gR (1) N = R1 at *
          have S1 := Lib.hid s1
          have hR1 : (R1 != R1) = false := by simp
          clear s1
          generalize onB m e N = on at *
          have hb1 : (on != on) = false := by simp
          have F1 := Lib.hid p1
          have G1 := Lib.hid r1
          have O1 := Lib.hid o1
          have O2 := Lib.hid o2
          clear p1 r1 o1 o2
          have c00 := L.b0.c30
          have c01 := L.b0.c31
          have c02 := L.b0.c32
          go_wp2_with fail
          refine (F1.out _ L.below).mono ?_
          rintro e w31 ⟨vy, rfl, id, be⟩
          clear c00 c01 c02
          obtain ⟨A3, c3, rfl, _, in9⟩ := id.form
          replace L := (L.step be).n in9
          clear be id in9
          replace L := L.varD w31.heap.size rfl (ng M1) A3 (zl M1) c3 E1
          have c00 := L.b0.c30
          have c01 := L.b0.c31
          have c02 := L.b0.c32
          have c10 := L.tl.b0.c30
          have c11 := L.tl.b0.c31
          have c12 := L.tl.b0.c32
          go_wp2_with fail
          obtain ⟨g3, hg⟩ : ∃ g, w31.heap.size = g := ⟨_, rfl⟩
          rw [hg] at L c00 c01 c02 ⊢
          clear hg
          refine (G1.out _).mono ?_
          rintro e w32 ⟨vy, rfl, id, be⟩
          clear c00 c01 c02 c10 c11 c12
          obtain ⟨A4, c4, rfl, _, in9⟩ := id.form
          replace L := (L.step be).n in9
          clear be id in9
          replace L := L.varD w32.heap.size rfl (ng M1) A4 (zl M1) c4 E1
          have c00 := L.b0.c30
          have c01 := L.b0.c31
          have c02 := L.b0.c32
          have c10 := L.tl.b0.c30
          have c11 := L.tl.b0.c31
          have c12 := L.tl.b0.c32
          have c20 := L.tl.tl.b0.c30
          have c21 := L.tl.tl.b0.c31
          have c22 := L.tl.tl.b0.c32
          go_wp2_with fail
          obtain ⟨g4, hg⟩ : ∃ g, w32.heap.size = g := ⟨_, rfl⟩
          rw [hg] at L c00 c01 c02 ⊢
          clear hg
          replace L := L.drew
          clear c00 c01 c02 c10 c11 c12 c20 c21 c22
          have c00 := L.b0.c30
          have c01 := L.b0.c31
          have c02 := L.b0.c32
          have c10 := L.tl.b0.c30
          have c11 := L.tl.b0.c31
          have c12 := L.tl.b0.c32
          have c20 := L.tl.tl.b0.c30
          have c21 := L.tl.tl.b0.c31
          have c22 := L.tl.tl.b0.c32
          go_region_held3 (fun w' => w'.cell? ⟨g, 0, none⟩ = some (.bool (ng m)) ∧ w'.cell? ⟨g, 1, none⟩ = some (.slice A (zl m) c) ∧ w'.cell? ⟨g, 2, none⟩ = some (.int .i64 e) ∧ w'.cell? ⟨g3, 0, none⟩ = some (.bool (ng M1)) ∧ w'.cell? ⟨g3, 1, none⟩ = some (.slice A3 (zl M1) c3) ∧ w'.cell? ⟨g3, 2, none⟩ = some (.int .i64 E1) ∧ w'.cell? ⟨g4, 0, none⟩ = some (.bool (ng M1)) ∧ w'.cell? ⟨g4, 1, none⟩ = some (.slice A4 (zl M1) c4) ∧ w'.cell? ⟨g4, 2, none⟩ = some (.int .i64 E1)) (first | (with_reducible exact ⟨L.tl.tl.b0.c30, L.tl.tl.b0.c31, L.tl.tl.b0.c32, L.tl.b0.c30, L.tl.b0.c31, L.tl.b0.c32, L.b0.c30, L.b0.c31, L.b0.c32⟩) | exact ⟨L.tl.tl.b0.c30, L.tl.tl.b0.c31, L.tl.tl.b0.c32, L.tl.b0.c30, L.tl.b0.c31, L.tl.b0.c32, L.b0.c30, L.b0.c31, L.b0.c32⟩) (first | (go_at_call 19; (with_reducible refine (O1.out _ _ ?_ ).mono ?_); (· (refine isD_n (L.getN ?_); (repeat (first | (with_reducible exact List.mem_cons_self) | apply List.mem_cons_of_mem)))); rintro e wh ⟨rfl, be⟩; replace L := L.step be; clear be) | (go_at_call 27; (with_reducible refine (O2.out _ _ ?_ ).mono ?_); (· (refine isD_n (L.getN ?_); (repeat (first | (with_reducible exact List.mem_cons_self) | apply List.mem_cons_of_mem)))); rintro e wh ⟨rfl, be⟩; replace L := L.step be; clear be) | (go_at_call 16; (with_reducible refine (S1.out _ _ _ ?_ ?_ ).mono ?_); (· (refine isD_n (L.getN ?_); (repeat (first | (with_reducible exact List.mem_cons_self) | apply List.mem_cons_of_mem)))); (· (refine isD_n (L.getN ?_); (repeat (first | (with_reducible exact List.mem_cons_self) | apply List.mem_cons_of_mem)))); rintro e wh ⟨rfl, be⟩; replace L := L.step be; clear be))
          clear c00 c01 c02 c10 c11 c12 c20 c21 c22
          go_wp2_with fail
          go_roundw
          case rel => exact ⟨t + 1, by go_num, by omega, hbe.trans (L.below.mono hbs)⟩
          case measure => simp [intOf]; omega

end Go.Proofs.YtgjljalcgiddgaaDoor
