/- The walk of IntervalMakes: whatever the input, the law returns true and turns nothing that was there. -/
import Derived.Test.YtgcmdlannbobgaaAwake10
import Derived.Test.YtgcmdlannbobgaaIvMath2
import Derived.Test.YtgcmdlannbobgaaBaseE
import Derived.Deep.RegionHeld3
import Derived.Deep.DrawnRows
import Derived.Deep.Cut
import Derived.Deep.CutRange
namespace Go.Proofs.Ytgcmdlannbobgaa
open Go.RowKit
set_option linter.unusedVariables false
set_option linter.unusedSimpArgs false
set_option maxRecDepth 100000
attribute [local go_sem ↓] Go.wp_at_zero Go.wp_at_succ

set_option maxHeartbeats 16000000 in
theorem walk_IntervalMakes (b0 : Bool) (a0 : Option Addr) (len0 cap0 : Nat) (z0 : List Nat) (f0 : Int) (bb0 : Bool) (aa0 : Option Addr) (ll0 cc0 : Nat) (zz0 : List Nat) (ff0 : Int) (b1 : Bool) (a1 : Option Addr) (len1 cap1 : Nat) (z1 : List Nat) (f1 : Int) (b2 : Bool) (a2 : Option Addr) (len2 cap2 : Nat) (z2 : List Nat) (f2 : Int) (w : World) (h0 : Sl w a0 len0 cap0 z0 ∧ -9223372036854775808 ≤ f0 ∧ f0 ≤ 9223372036854775807) (k0 : Sl w aa0 ll0 cc0 zz0 ∧ -9223372036854775808 ≤ ff0 ∧ ff0 ≤ 9223372036854775807) (h1 : Sl w a1 len1 cap1 z1) (u1 : -9223372036854775808 ≤ f1) (t1 : f1 ≤ 9223372036854775807) (h2 : Sl w a2 len2 cap2 z2) (u2 : -9223372036854775808 ≤ f2) (t2 : f2 ≤ 9223372036854775807) :
    Calls Try.prog 3 #[.agg #[.bool b0, .slice a0 len0 cap0, .int .i64 f0, .bool bb0, .slice aa0 ll0 cc0, .int .i64 ff0], .agg #[.bool b1, .slice a1 len1 cap1, .int .i64 f1], .agg #[.bool b2, .slice a2 len2 cap2, .int .i64 f2]] w (fun e w' => e = .returned (.bool true) ∧ Below w.heap.size w w') := by
  go_enter Try.func3, Try.ntmps3
  go_wp2_with fail
  have L := ((((Lq.mk0 w).varI (w.heap.size) (by simp) b0 a0 len0 cap0 f0 bb0 aa0 ll0 cc0 ff0).varD (w.heap.size + 1) (by simp) b1 a1 len1 cap1 f1).varD (w.heap.size + 2) (by simp) b2 a2 len2 cap2 f2)
  (try go_wp2_with fail)
  refine (awake10_any _).mono ?_
  rintro e9 w1 ⟨rfl, be⟩
  replace L := L.step be
  clear be
  have c00 := L.b0.c30
  have c01 := L.b0.c31
  have c02 := L.b0.c32
  have c10 := L.tl.b0.c30
  have c11 := L.tl.b0.c31
  have c12 := L.tl.b0.c32
  have c20 := L.tl.tl.b0.c60
  have c21 := L.tl.tl.b0.c61
  have c22 := L.tl.tl.b0.c62
  have c23 := L.tl.tl.b0.c63
  have c24 := L.tl.tl.b0.c64
  have c25 := L.tl.tl.b0.c65
  clear c00 c01 c02 c10 c11 c12 c20 c21 c22 c23 c24 c25
  have c10 := L.tl.b0.c30
  have c11 := L.tl.b0.c31
  have c12 := L.tl.b0.c32
  (try go_wp2_with fail)
  refine (millD_any b1 z1 5 60 a1 len1 cap1 f1 _ (h1.mono L.below) (by omega) (by omega) u1 t1).mono ?_
  rintro e w2 ⟨v1, ok1, m, e, rfl, id, lm, x1e, x2e, dvm, be⟩
  clear c10 c11 c12
  obtain ⟨A, c, rfl, _, in9⟩ := id.form
  replace L := (L.step be).n in9
  clear be id in9
  have hlg := L.b0.lt
  replace L := L.varD w2.heap.size rfl (ng m) A (zl m) c e
  have c00 := L.b0.c30
  have c01 := L.b0.c31
  have c02 := L.b0.c32
  have c10 := L.tl.b0.c30
  have c11 := L.tl.b0.c31
  have c12 := L.tl.b0.c32
  go_wp2_with fail
  obtain ⟨g, hg⟩ : ∃ g, w2.heap.size = g := ⟨_, rfl⟩
  rw [hg] at L hlg c00 c01 c02 ⊢
  clear hg
  clear c00 c01 c02 c10 c11 c12
  have c00 := L.b0.c30
  have c01 := L.b0.c31
  have c02 := L.b0.c32
  have c10 := L.tl.b0.c30
  have c11 := L.tl.b0.c31
  have c12 := L.tl.b0.c32
  (try go_wp2_with fail)
  refine (millD_any b2 z2 5 60 a2 len2 cap2 f2 _ (h2.mono L.below) (by omega) (by omega) u2 t2).mono ?_
  rintro e w3 ⟨v2, ok2, n, f, rfl, id, ln, x1f, x2f, dvn, be⟩
  clear c00 c01 c02 c10 c11 c12
  obtain ⟨B, d, rfl, _, in9⟩ := id.form
  replace L := (L.step be).n in9
  clear be id in9
  have hlg2 := L.b0.lt
  replace L := L.varD w3.heap.size rfl (ng n) B (zl n) d f
  cases ok1
  · go_wp2_with fail
    go_ret
    exact ⟨rfl, L.below⟩
  cases ok2
  · go_wp2_with fail
    go_ret
    exact ⟨rfl, L.below⟩
  replace dvm := dvm (by first | trivial | rfl)
  replace dvn := dvn (by first | trivial | rfl)
  by_cases q1 : 20 < len0
  · have b1 : decide ((20 : Int) < (len0 : Int)) = true := decide_eq_true (by omega)
    have c40 := L.tl.tl.tl.tl.b0.c60
    have c41 := L.tl.tl.tl.tl.b0.c61
    have c42 := L.tl.tl.tl.tl.b0.c62
    have c43 := L.tl.tl.tl.tl.b0.c63
    have c44 := L.tl.tl.tl.tl.b0.c64
    have c45 := L.tl.tl.tl.tl.b0.c65
    go_wp2_with fail
    go_ret
    exact ⟨rfl, L.below⟩
  have b1 : decide ((20 : Int) < (len0 : Int)) = false := decide_eq_false (by omega)
  by_cases q2 : 20 < ll0
  · have b2 : decide ((20 : Int) < (ll0 : Int)) = true := decide_eq_true (by omega)
    have c40 := L.tl.tl.tl.tl.b0.c60
    have c41 := L.tl.tl.tl.tl.b0.c61
    have c42 := L.tl.tl.tl.tl.b0.c62
    have c43 := L.tl.tl.tl.tl.b0.c63
    have c44 := L.tl.tl.tl.tl.b0.c64
    have c45 := L.tl.tl.tl.tl.b0.c65
    go_wp2_with fail
    go_ret
    exact ⟨rfl, L.below⟩
  have b2 : decide ((20 : Int) < (ll0 : Int)) = false := decide_eq_false (by omega)
  have c40 := L.tl.tl.tl.tl.b0.c60
  have c41 := L.tl.tl.tl.tl.b0.c61
  have c42 := L.tl.tl.tl.tl.b0.c62
  have c43 := L.tl.tl.tl.tl.b0.c63
  have c44 := L.tl.tl.tl.tl.b0.c64
  have c45 := L.tl.tl.tl.tl.b0.c65
  go_wp2_with fail
  clear c40 c41 c42 c43 c44 c45
  obtain ⟨g2, hg⟩ : ∃ g, w3.heap.size = g := ⟨_, rfl⟩
  rw [hg] at L hlg2 ⊢
  clear hg
  obtain ⟨V, hV⟩ : ∃ V, (w3.alloc (.cells #[.bool (ng n), .slice B (zl n) d, .int .i64 f] 26)) = V := ⟨_, rfl⟩
  rw [hV] at L ⊢
  clear hV
  have hwV := L.below
  have hws := hwV.size
  have RAW := Lib.hid (fun W (hW : Below V.heap.size V W) => i10raw_any b0 bb0 z0 zz0 a0 aa0 len0 cap0 ll0 cc0 f0 ff0 W (h0.1.mono (hwV.trans (hW.mono hws))) (k0.1.mono (hwV.trans (hW.mono hws))) (by omega) (by omega))
  have RRW := Lib.hid (fun W (hW : Below V.heap.size V W) => r10raw_any b0 bb0 z0 zz0 a0 aa0 len0 cap0 ll0 cc0 f0 ff0 W (h0.1.mono (hwV.trans (hW.mono hws))) (k0.1.mono (hwV.trans (hW.mono hws))) (by omega) (by omega))
  have RLO := Lib.hid (fun W (hW : Below V.heap.size V W) => rvalid8_any b0 z0 a0 len0 cap0 f0 W (h0.1.mono (hwV.trans (hW.mono hws))) (by omega))
  have RHI := Lib.hid (fun W (hW : Below V.heap.size V W) => rvalid8_any bb0 zz0 aa0 ll0 cc0 ff0 W (k0.1.mono (hwV.trans (hW.mono hws))) (by omega))
  obtain ⟨vl, hvl⟩ : ∃ b, dval b0 z0 f0 = b := ⟨_, rfl⟩
  obtain ⟨vh, hvh⟩ : ∃ b, dval bb0 zz0 ff0 = b := ⟨_, rfl⟩
  obtain ⟨vc, hvc⟩ : ∃ b, decide (dcm (sg b0 (val z0)) f0 (sg bb0 (val zz0)) ff0 ≤ 0) = b := ⟨_, rfl⟩
  rw [hvl, hvh, hvc] at RAW RRW
  rw [hvl] at RLO
  rw [hvh] at RHI
  clear hvl hvh hvc hwV hws q1 q2 b1 b2
  have LV := Lib.hid L
  go_cut [71] from 47 to 71 (fun s71 wx => s71 = .bool false ∧ Below V.heap.size V wx)
  case first =>
    have BV := L.tl.tl.tl.tl.b0
    clear L
    have L : Lq V V [] [] [] [(w.heap.size, 28, #[.bool b0, .slice a0 len0 cap0, .int .i64 f0, .bool bb0, .slice aa0 ll0 cc0, .int .i64 ff0])] := (Lq.mk0 V).b BV
    clear BV LV
    cases vl
    · simp only [Bool.false_and] at RAW RRW
      replace L := L.drew
      have c00 := L.b0.c60
      have c01 := L.b0.c61
      have c02 := L.b0.c62
      have c03 := L.b0.c63
      have c04 := L.b0.c64
      have c05 := L.b0.c65
      refine wp_region_noPanic ?_
      refine wp_region_held_drew (S := fun w' => w'.cell? ⟨w.heap.size, 0, none⟩ = some (.bool b0) ∧ w'.cell? ⟨w.heap.size, 1, none⟩ = some (.slice a0 len0 cap0) ∧ w'.cell? ⟨w.heap.size, 2, none⟩ = some (.int .i64 f0) ∧ w'.cell? ⟨w.heap.size, 3, none⟩ = some (.bool bb0) ∧ w'.cell? ⟨w.heap.size, 4, none⟩ = some (.slice aa0 ll0 cc0) ∧ w'.cell? ⟨w.heap.size, 5, none⟩ = some (.int .i64 ff0)) (by kernel_rfl) ?rgsq000x (fun hHeld => ?rgrq000x)
      case rgsq000x => exact ⟨L.b0.c60, L.b0.c61, L.b0.c62, L.b0.c63, L.b0.c64, L.b0.c65⟩
      case rgrq000x =>
        refine wpAnyH_take (i := 0) (oi := { dst := some 47, op := _, type := _, pos := _, after := _, guard := _ }) (v := ?vq000x0) rfl (by kernel_rfl) (by kernel_rfl) (by kernel_rfl) (fun _ _ _ h => h) (Or.inl ⟨by rfl, ?hyq000x0⟩) (by assumption) ?restq000x0
        case hyq000x0 => (intro w hSw; (try dsimp only at hSw); go_simp; (try with_reducible rfl))
        case restq000x0 =>
          (try simp only [Act.put, List.setIfInBounds_toArray, List.set_cons_zero, List.set_cons_succ])
          refine wpAnyH_take (i := 1) (oi := { dst := some 48, op := _, type := _, pos := _, after := _, guard := _ }) (v := ?vq000x1) rfl (by kernel_rfl) (by kernel_rfl) (by kernel_rfl) (fun _ _ _ h => h) (Or.inl ⟨by rfl, ?hyq000x1⟩) (by assumption) ?restq000x1
          case hyq000x1 => (intro w hSw; (try dsimp only at hSw); go_simp; (try with_reducible rfl))
          case restq000x1 =>
            (try simp only [Act.put, List.setIfInBounds_toArray, List.set_cons_zero, List.set_cons_succ])
            refine wpAnyH_ready (rs := [2]) (by kernel_rfl) (by simp) ?_
            refine AllReadyH.cons rfl (fun K hK => ?_) AllReadyH.nil
            go_simp
            go_at_call 9
            refine (RLO.out _ ?_ ).mono ?_
            · exact L.below
            rintro e wh ⟨rfl, be⟩
            replace L := L.step be
            clear be
            go_wp2_with fail
            refine hK.out _ _ (by first | (with_reducible exact ⟨L.b0.c60, L.b0.c61, L.b0.c62, L.b0.c63, L.b0.c64, L.b0.c65⟩) | exact ⟨L.b0.c60, L.b0.c61, L.b0.c62, L.b0.c63, L.b0.c64, L.b0.c65⟩) (fun hHeld2 => ?_)
            clear hK K hHeld
            have hHeld := hHeld2
            clear hHeld2
            (try simp only [Act.put, List.setIfInBounds_toArray, List.set_cons_zero, List.set_cons_succ])
            refine wpAnyH_take (i := 3) (oi := { dst := some 50, op := _, type := _, pos := _, after := _, guard := _ }) (v := ?vq000x3) rfl (by kernel_rfl) (by kernel_rfl) (by kernel_rfl) (fun _ _ _ h => h) (Or.inl ⟨by rfl, ?hyq000x3⟩) (by assumption) ?restq000x3
            case hyq000x3 => (intro w hSw; (try dsimp only at hSw); go_simp; (try with_reducible rfl))
            case restq000x3 =>
              (try simp only [Act.put, List.setIfInBounds_toArray, List.set_cons_zero, List.set_cons_succ])
              refine wpAnyH_take (i := 4) (oi := { dst := some 51, op := _, type := _, pos := _, after := _, guard := _ }) (v := undef) rfl (by kernel_rfl) (by kernel_rfl) (by kernel_rfl) (fun _ _ _ h => h) (Or.inr ⟨by rfl, rfl⟩) (by assumption) ?_
              (try simp only [Act.put, List.setIfInBounds_toArray, List.set_cons_zero, List.set_cons_succ])
              refine wpAnyH_take (i := 5) (oi := { dst := some 52, op := _, type := _, pos := _, after := _, guard := _ }) (v := undef) rfl (by kernel_rfl) (by kernel_rfl) (by kernel_rfl) (fun _ _ _ h => h) (Or.inr ⟨by rfl, rfl⟩) (by assumption) ?_
              (try simp only [Act.put, List.setIfInBounds_toArray, List.set_cons_zero, List.set_cons_succ])
              refine wpAnyH_take (i := 6) (oi := { dst := some 53, op := _, type := _, pos := _, after := _, guard := _ }) (v := undef) rfl (by kernel_rfl) (by kernel_rfl) (by kernel_rfl) (fun _ _ _ h => h) (Or.inr ⟨by rfl, rfl⟩) (by assumption) ?_
              (try simp only [Act.put, List.setIfInBounds_toArray, List.set_cons_zero, List.set_cons_succ])
              refine wpAnyH_take (i := 7) (oi := { dst := some 54, op := _, type := _, pos := _, after := _, guard := _ }) (v := ?vq000x7) rfl (by kernel_rfl) (by kernel_rfl) (by kernel_rfl) (fun _ _ _ h => h) (Or.inl ⟨by rfl, ?hyq000x7⟩) (by assumption) ?restq000x7
              case hyq000x7 => (intro w hSw; (try dsimp only at hSw); go_simp; (try with_reducible rfl))
              case restq000x7 =>
                (try simp only [Act.put, List.setIfInBounds_toArray, List.set_cons_zero, List.set_cons_succ])
                refine wpAnyH_take (i := 8) (oi := { dst := some 55, op := _, type := _, pos := _, after := _, guard := _ }) (v := ?vq000x8) rfl (by kernel_rfl) (by kernel_rfl) (by kernel_rfl) (fun _ _ _ h => h) (Or.inl ⟨by rfl, ?hyq000x8⟩) (by assumption) ?restq000x8
                case hyq000x8 => (intro w hSw; (try dsimp only at hSw); go_simp; (try with_reducible rfl))
                case restq000x8 =>
                  (try simp only [Act.put, List.setIfInBounds_toArray, List.set_cons_zero, List.set_cons_succ])
                  refine wpAnyH_take (i := 9) (oi := { dst := some 56, op := _, type := _, pos := _, after := _, guard := _ }) (v := undef) rfl (by kernel_rfl) (by kernel_rfl) (by kernel_rfl) (fun _ _ _ h => h) (Or.inr ⟨by rfl, rfl⟩) (by assumption) ?_
                  (try simp only [Act.put, List.setIfInBounds_toArray, List.set_cons_zero, List.set_cons_succ])
                  refine wpAnyH_take (i := 10) (oi := { dst := some 57, op := _, type := _, pos := _, after := _, guard := _ }) (v := undef) rfl (by kernel_rfl) (by kernel_rfl) (by kernel_rfl) (fun _ _ _ h => h) (Or.inr ⟨by rfl, rfl⟩) (by assumption) ?_
                  (try simp only [Act.put, List.setIfInBounds_toArray, List.set_cons_zero, List.set_cons_succ])
                  refine wpAnyH_take (i := 11) (oi := { dst := some 58, op := _, type := _, pos := _, after := _, guard := _ }) (v := undef) rfl (by kernel_rfl) (by kernel_rfl) (by kernel_rfl) (fun _ _ _ h => h) (Or.inr ⟨by rfl, rfl⟩) (by assumption) ?_
                  (try simp only [Act.put, List.setIfInBounds_toArray, List.set_cons_zero, List.set_cons_succ])
                  refine wpAnyH_take (i := 12) (oi := { dst := some 59, op := _, type := _, pos := _, after := _, guard := _ }) (v := undef) rfl (by kernel_rfl) (by kernel_rfl) (by kernel_rfl) (fun _ _ _ h => h) (Or.inr ⟨by rfl, rfl⟩) (by assumption) ?_
                  (try simp only [Act.put, List.setIfInBounds_toArray, List.set_cons_zero, List.set_cons_succ])
                  refine wpAnyH_take (i := 13) (oi := { dst := some 60, op := _, type := _, pos := _, after := _, guard := _ }) (v := undef) rfl (by kernel_rfl) (by kernel_rfl) (by kernel_rfl) (fun _ _ _ h => h) (Or.inr ⟨by rfl, rfl⟩) (by assumption) ?_
                  (try simp only [Act.put, List.setIfInBounds_toArray, List.set_cons_zero, List.set_cons_succ])
                  refine wpAnyH_take (i := 14) (oi := { dst := some 61, op := _, type := _, pos := _, after := _, guard := _ }) (v := ?vq000x14) rfl (by kernel_rfl) (by kernel_rfl) (by kernel_rfl) (fun _ _ _ h => h) (Or.inl ⟨by rfl, ?hyq000x14⟩) (by assumption) ?restq000x14
                  case hyq000x14 => (intro w hSw; (try dsimp only at hSw); go_simp; (try with_reducible rfl))
                  case restq000x14 =>
                    (try simp only [Act.put, List.setIfInBounds_toArray, List.set_cons_zero, List.set_cons_succ])
                    refine wpAnyH_take (i := 15) (oi := { dst := some 62, op := _, type := _, pos := _, after := _, guard := _ }) (v := ?vq000x15) rfl (by kernel_rfl) (by kernel_rfl) (by kernel_rfl) (fun _ _ _ h => h) (Or.inl ⟨by rfl, ?hyq000x15⟩) (by assumption) ?restq000x15
                    case hyq000x15 => (intro w hSw; (try dsimp only at hSw); go_simp; (try with_reducible rfl))
                    case restq000x15 =>
                      (try simp only [Act.put, List.setIfInBounds_toArray, List.set_cons_zero, List.set_cons_succ])
                      refine wpAnyH_take (i := 16) (oi := { dst := some 63, op := _, type := _, pos := _, after := _, guard := _ }) (v := ?vq000x16) rfl (by kernel_rfl) (by kernel_rfl) (by kernel_rfl) (fun _ _ _ h => h) (Or.inl ⟨by rfl, ?hyq000x16⟩) (by assumption) ?restq000x16
                      case hyq000x16 => (intro w hSw; (try dsimp only at hSw); go_simp; (try with_reducible rfl))
                      case restq000x16 =>
                        (try simp only [Act.put, List.setIfInBounds_toArray, List.set_cons_zero, List.set_cons_succ])
                        refine wpAnyH_ready (rs := [17]) (by kernel_rfl) (by simp) ?_
                        refine AllReadyH.cons rfl (fun K hK => ?_) AllReadyH.nil
                        go_simp
                        go_at_call 10
                        refine (RAW.out _ ?_ ).mono ?_
                        · exact L.below
                        rintro e wh ⟨rfl, be⟩
                        replace L := L.step be
                        clear be
                        go_wp2_with fail
                        refine hK.out _ _ (by first | (with_reducible exact ⟨L.b0.c60, L.b0.c61, L.b0.c62, L.b0.c63, L.b0.c64, L.b0.c65⟩) | exact ⟨L.b0.c60, L.b0.c61, L.b0.c62, L.b0.c63, L.b0.c64, L.b0.c65⟩) (fun hHeld2 => ?_)
                        clear hK K hHeld
                        have hHeld := hHeld2
                        clear hHeld2
                        (try simp only [Act.put, List.setIfInBounds_toArray, List.set_cons_zero, List.set_cons_succ])
                        refine wpAnyH_take (i := 18) (oi := { dst := some 65, op := _, type := _, pos := _, after := _, guard := _ }) (v := ?vq000x18) rfl (by kernel_rfl) (by kernel_rfl) (by kernel_rfl) (fun _ _ _ h => h) (Or.inl ⟨by rfl, ?hyq000x18⟩) (by assumption) ?restq000x18
                        case hyq000x18 => (intro w hSw; (try dsimp only at hSw); go_simp; (try with_reducible rfl))
                        case restq000x18 =>
                          (try simp only [Act.put, List.setIfInBounds_toArray, List.set_cons_zero, List.set_cons_succ])
                          refine wpAnyH_take (i := 19) (oi := { dst := some 66, op := _, type := _, pos := _, after := _, guard := _ }) (v := undef) rfl (by kernel_rfl) (by kernel_rfl) (by kernel_rfl) (fun _ _ _ h => h) (Or.inr ⟨by rfl, rfl⟩) (by assumption) ?_
                          (try simp only [Act.put, List.setIfInBounds_toArray, List.set_cons_zero, List.set_cons_succ])
                          refine wpAnyH_take (i := 20) (oi := { dst := some 67, op := _, type := _, pos := _, after := _, guard := _ }) (v := undef) rfl (by kernel_rfl) (by kernel_rfl) (by kernel_rfl) (fun _ _ _ h => h) (Or.inr ⟨by rfl, rfl⟩) (by assumption) ?_
                          (try simp only [Act.put, List.setIfInBounds_toArray, List.set_cons_zero, List.set_cons_succ])
                          refine wpAnyH_take (i := 21) (oi := { dst := some 68, op := _, type := _, pos := _, after := _, guard := _ }) (v := undef) rfl (by kernel_rfl) (by kernel_rfl) (by kernel_rfl) (fun _ _ _ h => h) (Or.inr ⟨by rfl, rfl⟩) (by assumption) ?_
                          (try simp only [Act.put, List.setIfInBounds_toArray, List.set_cons_zero, List.set_cons_succ])
                          refine wpAnyH_take (i := 22) (oi := { dst := some 69, op := _, type := _, pos := _, after := _, guard := _ }) (v := undef) rfl (by kernel_rfl) (by kernel_rfl) (by kernel_rfl) (fun _ _ _ h => h) (Or.inr ⟨by rfl, rfl⟩) (by assumption) ?_
                          (try simp only [Act.put, List.setIfInBounds_toArray, List.set_cons_zero, List.set_cons_succ])
                          refine wpAnyH_take (i := 23) (oi := { dst := some 70, op := _, type := _, pos := _, after := _, guard := _ }) (v := ?vq000x23) rfl (by kernel_rfl) (by kernel_rfl) (by kernel_rfl) (fun _ _ _ h => h) (Or.inl ⟨by rfl, ?hyq000x23⟩) (by assumption) ?restq000x23
                          case hyq000x23 => (intro w hSw; (try dsimp only at hSw); go_simp; (try with_reducible rfl))
                          case restq000x23 =>
                            (try simp only [Act.put, List.setIfInBounds_toArray, List.set_cons_zero, List.set_cons_succ])
                            refine wpAnyH_take (i := 24) (oi := { dst := some 71, op := _, type := _, pos := _, after := _, guard := _ }) (v := ?vq000x24) rfl (by kernel_rfl) (by kernel_rfl) (by kernel_rfl) (fun _ _ _ h => h) (Or.inl ⟨by rfl, ?hyq000x24⟩) (by assumption) ?restq000x24
                            case hyq000x24 => (intro w hSw; (try dsimp only at hSw); go_simp; (try with_reducible rfl))
                            case restq000x24 =>
                              (try simp only [Act.put, List.setIfInBounds_toArray, List.set_cons_zero, List.set_cons_succ])
                              refine wpAnyH_done (by kernel_rfl) ?_ _
                              refine NoPanic.normal ?_
                              go_wp2_with fail
                              go_meet
                              exact ⟨rfl, L.below⟩
    · simp only [Bool.true_and] at RAW RRW
      cases vh
      · simp only [Bool.false_and] at RAW RRW
        replace L := L.drew
        have c00 := L.b0.c60
        have c01 := L.b0.c61
        have c02 := L.b0.c62
        have c03 := L.b0.c63
        have c04 := L.b0.c64
        have c05 := L.b0.c65
        refine wp_region_noPanic ?_
        refine wp_region_held_drew (S := fun w' => w'.cell? ⟨w.heap.size, 0, none⟩ = some (.bool b0) ∧ w'.cell? ⟨w.heap.size, 1, none⟩ = some (.slice a0 len0 cap0) ∧ w'.cell? ⟨w.heap.size, 2, none⟩ = some (.int .i64 f0) ∧ w'.cell? ⟨w.heap.size, 3, none⟩ = some (.bool bb0) ∧ w'.cell? ⟨w.heap.size, 4, none⟩ = some (.slice aa0 ll0 cc0) ∧ w'.cell? ⟨w.heap.size, 5, none⟩ = some (.int .i64 ff0)) (by kernel_rfl) ?rgsq100x (fun hHeld => ?rgrq100x)
        case rgsq100x => exact ⟨L.b0.c60, L.b0.c61, L.b0.c62, L.b0.c63, L.b0.c64, L.b0.c65⟩
        case rgrq100x =>
          refine wpAnyH_take (i := 0) (oi := { dst := some 47, op := _, type := _, pos := _, after := _, guard := _ }) (v := ?vq100x0) rfl (by kernel_rfl) (by kernel_rfl) (by kernel_rfl) (fun _ _ _ h => h) (Or.inl ⟨by rfl, ?hyq100x0⟩) (by assumption) ?restq100x0
          case hyq100x0 => (intro w hSw; (try dsimp only at hSw); go_simp; (try with_reducible rfl))
          case restq100x0 =>
            (try simp only [Act.put, List.setIfInBounds_toArray, List.set_cons_zero, List.set_cons_succ])
            refine wpAnyH_take (i := 1) (oi := { dst := some 48, op := _, type := _, pos := _, after := _, guard := _ }) (v := ?vq100x1) rfl (by kernel_rfl) (by kernel_rfl) (by kernel_rfl) (fun _ _ _ h => h) (Or.inl ⟨by rfl, ?hyq100x1⟩) (by assumption) ?restq100x1
            case hyq100x1 => (intro w hSw; (try dsimp only at hSw); go_simp; (try with_reducible rfl))
            case restq100x1 =>
              (try simp only [Act.put, List.setIfInBounds_toArray, List.set_cons_zero, List.set_cons_succ])
              refine wpAnyH_ready (rs := [2]) (by kernel_rfl) (by simp) ?_
              refine AllReadyH.cons rfl (fun K hK => ?_) AllReadyH.nil
              go_simp
              go_at_call 9
              refine (RLO.out _ ?_ ).mono ?_
              · exact L.below
              rintro e wh ⟨rfl, be⟩
              replace L := L.step be
              clear be
              go_wp2_with fail
              refine hK.out _ _ (by first | (with_reducible exact ⟨L.b0.c60, L.b0.c61, L.b0.c62, L.b0.c63, L.b0.c64, L.b0.c65⟩) | exact ⟨L.b0.c60, L.b0.c61, L.b0.c62, L.b0.c63, L.b0.c64, L.b0.c65⟩) (fun hHeld2 => ?_)
              clear hK K hHeld
              have hHeld := hHeld2
              clear hHeld2
              (try simp only [Act.put, List.setIfInBounds_toArray, List.set_cons_zero, List.set_cons_succ])
              refine wpAnyH_take (i := 3) (oi := { dst := some 50, op := _, type := _, pos := _, after := _, guard := _ }) (v := ?vq100x3) rfl (by kernel_rfl) (by kernel_rfl) (by kernel_rfl) (fun _ _ _ h => h) (Or.inl ⟨by rfl, ?hyq100x3⟩) (by assumption) ?restq100x3
              case hyq100x3 => (intro w hSw; (try dsimp only at hSw); go_simp; (try with_reducible rfl))
              case restq100x3 =>
                (try simp only [Act.put, List.setIfInBounds_toArray, List.set_cons_zero, List.set_cons_succ])
                refine wpAnyH_take (i := 4) (oi := { dst := some 51, op := _, type := _, pos := _, after := _, guard := _ }) (v := ?vq100x4) rfl (by kernel_rfl) (by kernel_rfl) (by kernel_rfl) (fun _ _ _ h => h) (Or.inl ⟨by rfl, ?hyq100x4⟩) (by assumption) ?restq100x4
                case hyq100x4 => (intro w hSw; (try dsimp only at hSw); go_simp; (try with_reducible rfl))
                case restq100x4 =>
                  (try simp only [Act.put, List.setIfInBounds_toArray, List.set_cons_zero, List.set_cons_succ])
                  refine wpAnyH_take (i := 5) (oi := { dst := some 52, op := _, type := _, pos := _, after := _, guard := _ }) (v := ?vq100x5) rfl (by kernel_rfl) (by kernel_rfl) (by kernel_rfl) (fun _ _ _ h => h) (Or.inl ⟨by rfl, ?hyq100x5⟩) (by assumption) ?restq100x5
                  case hyq100x5 => (intro w hSw; (try dsimp only at hSw); go_simp; (try with_reducible rfl))
                  case restq100x5 =>
                    (try simp only [Act.put, List.setIfInBounds_toArray, List.set_cons_zero, List.set_cons_succ])
                    refine wpAnyH_ready (rs := [6]) (by kernel_rfl) (by simp) ?_
                    refine AllReadyH.cons rfl (fun K hK => ?_) AllReadyH.nil
                    go_simp
                    go_at_call 9
                    refine (RHI.out _ ?_ ).mono ?_
                    · exact L.below
                    rintro e wh ⟨rfl, be⟩
                    replace L := L.step be
                    clear be
                    go_wp2_with fail
                    refine hK.out _ _ (by first | (with_reducible exact ⟨L.b0.c60, L.b0.c61, L.b0.c62, L.b0.c63, L.b0.c64, L.b0.c65⟩) | exact ⟨L.b0.c60, L.b0.c61, L.b0.c62, L.b0.c63, L.b0.c64, L.b0.c65⟩) (fun hHeld2 => ?_)
                    clear hK K hHeld
                    have hHeld := hHeld2
                    clear hHeld2
                    (try simp only [Act.put, List.setIfInBounds_toArray, List.set_cons_zero, List.set_cons_succ])
                    refine wpAnyH_take (i := 7) (oi := { dst := some 54, op := _, type := _, pos := _, after := _, guard := _ }) (v := ?vq100x7) rfl (by kernel_rfl) (by kernel_rfl) (by kernel_rfl) (fun _ _ _ h => h) (Or.inl ⟨by rfl, ?hyq100x7⟩) (by assumption) ?restq100x7
                    case hyq100x7 => (intro w hSw; (try dsimp only at hSw); go_simp; (try with_reducible rfl))
                    case restq100x7 =>
                      (try simp only [Act.put, List.setIfInBounds_toArray, List.set_cons_zero, List.set_cons_succ])
                      refine wpAnyH_take (i := 8) (oi := { dst := some 55, op := _, type := _, pos := _, after := _, guard := _ }) (v := ?vq100x8) rfl (by kernel_rfl) (by kernel_rfl) (by kernel_rfl) (fun _ _ _ h => h) (Or.inl ⟨by rfl, ?hyq100x8⟩) (by assumption) ?restq100x8
                      case hyq100x8 => (intro w hSw; (try dsimp only at hSw); go_simp; (try with_reducible rfl))
                      case restq100x8 =>
                        (try simp only [Act.put, List.setIfInBounds_toArray, List.set_cons_zero, List.set_cons_succ])
                        refine wpAnyH_take (i := 9) (oi := { dst := some 56, op := _, type := _, pos := _, after := _, guard := _ }) (v := undef) rfl (by kernel_rfl) (by kernel_rfl) (by kernel_rfl) (fun _ _ _ h => h) (Or.inr ⟨by rfl, rfl⟩) (by assumption) ?_
                        (try simp only [Act.put, List.setIfInBounds_toArray, List.set_cons_zero, List.set_cons_succ])
                        refine wpAnyH_take (i := 10) (oi := { dst := some 57, op := _, type := _, pos := _, after := _, guard := _ }) (v := undef) rfl (by kernel_rfl) (by kernel_rfl) (by kernel_rfl) (fun _ _ _ h => h) (Or.inr ⟨by rfl, rfl⟩) (by assumption) ?_
                        (try simp only [Act.put, List.setIfInBounds_toArray, List.set_cons_zero, List.set_cons_succ])
                        refine wpAnyH_take (i := 11) (oi := { dst := some 58, op := _, type := _, pos := _, after := _, guard := _ }) (v := undef) rfl (by kernel_rfl) (by kernel_rfl) (by kernel_rfl) (fun _ _ _ h => h) (Or.inr ⟨by rfl, rfl⟩) (by assumption) ?_
                        (try simp only [Act.put, List.setIfInBounds_toArray, List.set_cons_zero, List.set_cons_succ])
                        refine wpAnyH_take (i := 12) (oi := { dst := some 59, op := _, type := _, pos := _, after := _, guard := _ }) (v := undef) rfl (by kernel_rfl) (by kernel_rfl) (by kernel_rfl) (fun _ _ _ h => h) (Or.inr ⟨by rfl, rfl⟩) (by assumption) ?_
                        (try simp only [Act.put, List.setIfInBounds_toArray, List.set_cons_zero, List.set_cons_succ])
                        refine wpAnyH_take (i := 13) (oi := { dst := some 60, op := _, type := _, pos := _, after := _, guard := _ }) (v := undef) rfl (by kernel_rfl) (by kernel_rfl) (by kernel_rfl) (fun _ _ _ h => h) (Or.inr ⟨by rfl, rfl⟩) (by assumption) ?_
                        (try simp only [Act.put, List.setIfInBounds_toArray, List.set_cons_zero, List.set_cons_succ])
                        refine wpAnyH_take (i := 14) (oi := { dst := some 61, op := _, type := _, pos := _, after := _, guard := _ }) (v := ?vq100x14) rfl (by kernel_rfl) (by kernel_rfl) (by kernel_rfl) (fun _ _ _ h => h) (Or.inl ⟨by rfl, ?hyq100x14⟩) (by assumption) ?restq100x14
                        case hyq100x14 => (intro w hSw; (try dsimp only at hSw); go_simp; (try with_reducible rfl))
                        case restq100x14 =>
                          (try simp only [Act.put, List.setIfInBounds_toArray, List.set_cons_zero, List.set_cons_succ])
                          refine wpAnyH_take (i := 15) (oi := { dst := some 62, op := _, type := _, pos := _, after := _, guard := _ }) (v := ?vq100x15) rfl (by kernel_rfl) (by kernel_rfl) (by kernel_rfl) (fun _ _ _ h => h) (Or.inl ⟨by rfl, ?hyq100x15⟩) (by assumption) ?restq100x15
                          case hyq100x15 => (intro w hSw; (try dsimp only at hSw); go_simp; (try with_reducible rfl))
                          case restq100x15 =>
                            (try simp only [Act.put, List.setIfInBounds_toArray, List.set_cons_zero, List.set_cons_succ])
                            refine wpAnyH_take (i := 16) (oi := { dst := some 63, op := _, type := _, pos := _, after := _, guard := _ }) (v := ?vq100x16) rfl (by kernel_rfl) (by kernel_rfl) (by kernel_rfl) (fun _ _ _ h => h) (Or.inl ⟨by rfl, ?hyq100x16⟩) (by assumption) ?restq100x16
                            case hyq100x16 => (intro w hSw; (try dsimp only at hSw); go_simp; (try with_reducible rfl))
                            case restq100x16 =>
                              (try simp only [Act.put, List.setIfInBounds_toArray, List.set_cons_zero, List.set_cons_succ])
                              refine wpAnyH_ready (rs := [17]) (by kernel_rfl) (by simp) ?_
                              refine AllReadyH.cons rfl (fun K hK => ?_) AllReadyH.nil
                              go_simp
                              go_at_call 10
                              refine (RAW.out _ ?_ ).mono ?_
                              · exact L.below
                              rintro e wh ⟨rfl, be⟩
                              replace L := L.step be
                              clear be
                              go_wp2_with fail
                              refine hK.out _ _ (by first | (with_reducible exact ⟨L.b0.c60, L.b0.c61, L.b0.c62, L.b0.c63, L.b0.c64, L.b0.c65⟩) | exact ⟨L.b0.c60, L.b0.c61, L.b0.c62, L.b0.c63, L.b0.c64, L.b0.c65⟩) (fun hHeld2 => ?_)
                              clear hK K hHeld
                              have hHeld := hHeld2
                              clear hHeld2
                              (try simp only [Act.put, List.setIfInBounds_toArray, List.set_cons_zero, List.set_cons_succ])
                              refine wpAnyH_take (i := 18) (oi := { dst := some 65, op := _, type := _, pos := _, after := _, guard := _ }) (v := ?vq100x18) rfl (by kernel_rfl) (by kernel_rfl) (by kernel_rfl) (fun _ _ _ h => h) (Or.inl ⟨by rfl, ?hyq100x18⟩) (by assumption) ?restq100x18
                              case hyq100x18 => (intro w hSw; (try dsimp only at hSw); go_simp; (try with_reducible rfl))
                              case restq100x18 =>
                                (try simp only [Act.put, List.setIfInBounds_toArray, List.set_cons_zero, List.set_cons_succ])
                                refine wpAnyH_take (i := 19) (oi := { dst := some 66, op := _, type := _, pos := _, after := _, guard := _ }) (v := undef) rfl (by kernel_rfl) (by kernel_rfl) (by kernel_rfl) (fun _ _ _ h => h) (Or.inr ⟨by rfl, rfl⟩) (by assumption) ?_
                                (try simp only [Act.put, List.setIfInBounds_toArray, List.set_cons_zero, List.set_cons_succ])
                                refine wpAnyH_take (i := 20) (oi := { dst := some 67, op := _, type := _, pos := _, after := _, guard := _ }) (v := undef) rfl (by kernel_rfl) (by kernel_rfl) (by kernel_rfl) (fun _ _ _ h => h) (Or.inr ⟨by rfl, rfl⟩) (by assumption) ?_
                                (try simp only [Act.put, List.setIfInBounds_toArray, List.set_cons_zero, List.set_cons_succ])
                                refine wpAnyH_take (i := 21) (oi := { dst := some 68, op := _, type := _, pos := _, after := _, guard := _ }) (v := undef) rfl (by kernel_rfl) (by kernel_rfl) (by kernel_rfl) (fun _ _ _ h => h) (Or.inr ⟨by rfl, rfl⟩) (by assumption) ?_
                                (try simp only [Act.put, List.setIfInBounds_toArray, List.set_cons_zero, List.set_cons_succ])
                                refine wpAnyH_take (i := 22) (oi := { dst := some 69, op := _, type := _, pos := _, after := _, guard := _ }) (v := undef) rfl (by kernel_rfl) (by kernel_rfl) (by kernel_rfl) (fun _ _ _ h => h) (Or.inr ⟨by rfl, rfl⟩) (by assumption) ?_
                                (try simp only [Act.put, List.setIfInBounds_toArray, List.set_cons_zero, List.set_cons_succ])
                                refine wpAnyH_take (i := 23) (oi := { dst := some 70, op := _, type := _, pos := _, after := _, guard := _ }) (v := ?vq100x23) rfl (by kernel_rfl) (by kernel_rfl) (by kernel_rfl) (fun _ _ _ h => h) (Or.inl ⟨by rfl, ?hyq100x23⟩) (by assumption) ?restq100x23
                                case hyq100x23 => (intro w hSw; (try dsimp only at hSw); go_simp; (try with_reducible rfl))
                                case restq100x23 =>
                                  (try simp only [Act.put, List.setIfInBounds_toArray, List.set_cons_zero, List.set_cons_succ])
                                  refine wpAnyH_take (i := 24) (oi := { dst := some 71, op := _, type := _, pos := _, after := _, guard := _ }) (v := ?vq100x24) rfl (by kernel_rfl) (by kernel_rfl) (by kernel_rfl) (fun _ _ _ h => h) (Or.inl ⟨by rfl, ?hyq100x24⟩) (by assumption) ?restq100x24
                                  case hyq100x24 => (intro w hSw; (try dsimp only at hSw); go_simp; (try with_reducible rfl))
                                  case restq100x24 =>
                                    (try simp only [Act.put, List.setIfInBounds_toArray, List.set_cons_zero, List.set_cons_succ])
                                    refine wpAnyH_done (by kernel_rfl) ?_ _
                                    refine NoPanic.normal ?_
                                    go_wp2_with fail
                                    go_meet
                                    exact ⟨rfl, L.below⟩
      · simp only [Bool.true_and] at RAW RRW
        cases vc
        · skip
          replace L := L.drew
          have c00 := L.b0.c60
          have c01 := L.b0.c61
          have c02 := L.b0.c62
          have c03 := L.b0.c63
          have c04 := L.b0.c64
          have c05 := L.b0.c65
          refine wp_region_noPanic ?_
          refine wp_region_held_drew (S := fun w' => w'.cell? ⟨w.heap.size, 0, none⟩ = some (.bool b0) ∧ w'.cell? ⟨w.heap.size, 1, none⟩ = some (.slice a0 len0 cap0) ∧ w'.cell? ⟨w.heap.size, 2, none⟩ = some (.int .i64 f0) ∧ w'.cell? ⟨w.heap.size, 3, none⟩ = some (.bool bb0) ∧ w'.cell? ⟨w.heap.size, 4, none⟩ = some (.slice aa0 ll0 cc0) ∧ w'.cell? ⟨w.heap.size, 5, none⟩ = some (.int .i64 ff0)) (by kernel_rfl) ?rgsq110x (fun hHeld => ?rgrq110x)
          case rgsq110x => exact ⟨L.b0.c60, L.b0.c61, L.b0.c62, L.b0.c63, L.b0.c64, L.b0.c65⟩
          case rgrq110x =>
            refine wpAnyH_take (i := 0) (oi := { dst := some 47, op := _, type := _, pos := _, after := _, guard := _ }) (v := ?vq110x0) rfl (by kernel_rfl) (by kernel_rfl) (by kernel_rfl) (fun _ _ _ h => h) (Or.inl ⟨by rfl, ?hyq110x0⟩) (by assumption) ?restq110x0
            case hyq110x0 => (intro w hSw; (try dsimp only at hSw); go_simp; (try with_reducible rfl))
            case restq110x0 =>
              (try simp only [Act.put, List.setIfInBounds_toArray, List.set_cons_zero, List.set_cons_succ])
              refine wpAnyH_take (i := 1) (oi := { dst := some 48, op := _, type := _, pos := _, after := _, guard := _ }) (v := ?vq110x1) rfl (by kernel_rfl) (by kernel_rfl) (by kernel_rfl) (fun _ _ _ h => h) (Or.inl ⟨by rfl, ?hyq110x1⟩) (by assumption) ?restq110x1
              case hyq110x1 => (intro w hSw; (try dsimp only at hSw); go_simp; (try with_reducible rfl))
              case restq110x1 =>
                (try simp only [Act.put, List.setIfInBounds_toArray, List.set_cons_zero, List.set_cons_succ])
                refine wpAnyH_ready (rs := [2]) (by kernel_rfl) (by simp) ?_
                refine AllReadyH.cons rfl (fun K hK => ?_) AllReadyH.nil
                go_simp
                go_at_call 9
                refine (RLO.out _ ?_ ).mono ?_
                · exact L.below
                rintro e wh ⟨rfl, be⟩
                replace L := L.step be
                clear be
                go_wp2_with fail
                refine hK.out _ _ (by first | (with_reducible exact ⟨L.b0.c60, L.b0.c61, L.b0.c62, L.b0.c63, L.b0.c64, L.b0.c65⟩) | exact ⟨L.b0.c60, L.b0.c61, L.b0.c62, L.b0.c63, L.b0.c64, L.b0.c65⟩) (fun hHeld2 => ?_)
                clear hK K hHeld
                have hHeld := hHeld2
                clear hHeld2
                (try simp only [Act.put, List.setIfInBounds_toArray, List.set_cons_zero, List.set_cons_succ])
                refine wpAnyH_take (i := 3) (oi := { dst := some 50, op := _, type := _, pos := _, after := _, guard := _ }) (v := ?vq110x3) rfl (by kernel_rfl) (by kernel_rfl) (by kernel_rfl) (fun _ _ _ h => h) (Or.inl ⟨by rfl, ?hyq110x3⟩) (by assumption) ?restq110x3
                case hyq110x3 => (intro w hSw; (try dsimp only at hSw); go_simp; (try with_reducible rfl))
                case restq110x3 =>
                  (try simp only [Act.put, List.setIfInBounds_toArray, List.set_cons_zero, List.set_cons_succ])
                  refine wpAnyH_take (i := 4) (oi := { dst := some 51, op := _, type := _, pos := _, after := _, guard := _ }) (v := ?vq110x4) rfl (by kernel_rfl) (by kernel_rfl) (by kernel_rfl) (fun _ _ _ h => h) (Or.inl ⟨by rfl, ?hyq110x4⟩) (by assumption) ?restq110x4
                  case hyq110x4 => (intro w hSw; (try dsimp only at hSw); go_simp; (try with_reducible rfl))
                  case restq110x4 =>
                    (try simp only [Act.put, List.setIfInBounds_toArray, List.set_cons_zero, List.set_cons_succ])
                    refine wpAnyH_take (i := 5) (oi := { dst := some 52, op := _, type := _, pos := _, after := _, guard := _ }) (v := ?vq110x5) rfl (by kernel_rfl) (by kernel_rfl) (by kernel_rfl) (fun _ _ _ h => h) (Or.inl ⟨by rfl, ?hyq110x5⟩) (by assumption) ?restq110x5
                    case hyq110x5 => (intro w hSw; (try dsimp only at hSw); go_simp; (try with_reducible rfl))
                    case restq110x5 =>
                      (try simp only [Act.put, List.setIfInBounds_toArray, List.set_cons_zero, List.set_cons_succ])
                      refine wpAnyH_ready (rs := [6]) (by kernel_rfl) (by simp) ?_
                      refine AllReadyH.cons rfl (fun K hK => ?_) AllReadyH.nil
                      go_simp
                      go_at_call 9
                      refine (RHI.out _ ?_ ).mono ?_
                      · exact L.below
                      rintro e wh ⟨rfl, be⟩
                      replace L := L.step be
                      clear be
                      go_wp2_with fail
                      refine hK.out _ _ (by first | (with_reducible exact ⟨L.b0.c60, L.b0.c61, L.b0.c62, L.b0.c63, L.b0.c64, L.b0.c65⟩) | exact ⟨L.b0.c60, L.b0.c61, L.b0.c62, L.b0.c63, L.b0.c64, L.b0.c65⟩) (fun hHeld2 => ?_)
                      clear hK K hHeld
                      have hHeld := hHeld2
                      clear hHeld2
                      (try simp only [Act.put, List.setIfInBounds_toArray, List.set_cons_zero, List.set_cons_succ])
                      refine wpAnyH_take (i := 7) (oi := { dst := some 54, op := _, type := _, pos := _, after := _, guard := _ }) (v := ?vq110x7) rfl (by kernel_rfl) (by kernel_rfl) (by kernel_rfl) (fun _ _ _ h => h) (Or.inl ⟨by rfl, ?hyq110x7⟩) (by assumption) ?restq110x7
                      case hyq110x7 => (intro w hSw; (try dsimp only at hSw); go_simp; (try with_reducible rfl))
                      case restq110x7 =>
                        (try simp only [Act.put, List.setIfInBounds_toArray, List.set_cons_zero, List.set_cons_succ])
                        refine wpAnyH_take (i := 8) (oi := { dst := some 55, op := _, type := _, pos := _, after := _, guard := _ }) (v := ?vq110x8) rfl (by kernel_rfl) (by kernel_rfl) (by kernel_rfl) (fun _ _ _ h => h) (Or.inl ⟨by rfl, ?hyq110x8⟩) (by assumption) ?restq110x8
                        case hyq110x8 => (intro w hSw; (try dsimp only at hSw); go_simp; (try with_reducible rfl))
                        case restq110x8 =>
                          (try simp only [Act.put, List.setIfInBounds_toArray, List.set_cons_zero, List.set_cons_succ])
                          refine wpAnyH_take (i := 9) (oi := { dst := some 56, op := _, type := _, pos := _, after := _, guard := _ }) (v := ?vq110x9) rfl (by kernel_rfl) (by kernel_rfl) (by kernel_rfl) (fun _ _ _ h => h) (Or.inl ⟨by rfl, ?hyq110x9⟩) (by assumption) ?restq110x9
                          case hyq110x9 => (intro w hSw; (try dsimp only at hSw); go_simp; (try with_reducible rfl))
                          case restq110x9 =>
                            (try simp only [Act.put, List.setIfInBounds_toArray, List.set_cons_zero, List.set_cons_succ])
                            refine wpAnyH_take (i := 11) (oi := { dst := some 58, op := _, type := _, pos := _, after := _, guard := _ }) (v := ?vq110x11) rfl (by kernel_rfl) (by kernel_rfl) (by kernel_rfl) (fun _ _ _ h => h) (Or.inl ⟨by rfl, ?hyq110x11⟩) (by assumption) ?restq110x11
                            case hyq110x11 => (intro w hSw; (try dsimp only at hSw); go_simp; (try with_reducible rfl))
                            case restq110x11 =>
                              (try simp only [Act.put, List.setIfInBounds_toArray, List.set_cons_zero, List.set_cons_succ])
                              refine wpAnyH_ready (rs := [10]) (by kernel_rfl) (by simp) ?_
                              refine AllReadyH.cons rfl (fun K hK => ?_) AllReadyH.nil
                              go_simp
                              go_at_call 10
                              refine (RAW.out _ ?_ ).mono ?_
                              · exact L.below
                              rintro e wh ⟨rfl, be⟩
                              replace L := L.step be
                              clear be
                              go_wp2_with fail
                              refine hK.out _ _ (by first | (with_reducible exact ⟨L.b0.c60, L.b0.c61, L.b0.c62, L.b0.c63, L.b0.c64, L.b0.c65⟩) | exact ⟨L.b0.c60, L.b0.c61, L.b0.c62, L.b0.c63, L.b0.c64, L.b0.c65⟩) (fun hHeld2 => ?_)
                              clear hK K hHeld
                              have hHeld := hHeld2
                              clear hHeld2
                              (try simp only [Act.put, List.setIfInBounds_toArray, List.set_cons_zero, List.set_cons_succ])
                              refine wpAnyH_ready (rs := [12]) (by kernel_rfl) (by simp) ?_
                              refine AllReadyH.cons rfl (fun K hK => ?_) AllReadyH.nil
                              go_simp
                              go_at_call 11
                              refine (RRW.out _ ?_ ).mono ?_
                              · exact L.below
                              rintro e wh ⟨rfl, be⟩
                              replace L := L.step be
                              clear be
                              go_wp2_with fail
                              refine hK.out _ _ (by first | (with_reducible exact ⟨L.b0.c60, L.b0.c61, L.b0.c62, L.b0.c63, L.b0.c64, L.b0.c65⟩) | exact ⟨L.b0.c60, L.b0.c61, L.b0.c62, L.b0.c63, L.b0.c64, L.b0.c65⟩) (fun hHeld2 => ?_)
                              clear hK K hHeld
                              have hHeld := hHeld2
                              clear hHeld2
                              (try simp only [Act.put, List.setIfInBounds_toArray, List.set_cons_zero, List.set_cons_succ])
                              refine wpAnyH_take (i := 13) (oi := { dst := some 60, op := _, type := _, pos := _, after := _, guard := _ }) (v := ?vq110x13) rfl (by kernel_rfl) (by kernel_rfl) (by kernel_rfl) (fun _ _ _ h => h) (Or.inl ⟨by rfl, ?hyq110x13⟩) (by assumption) ?restq110x13
                              case hyq110x13 => (intro w hSw; (try dsimp only at hSw); go_simp; (try with_reducible rfl))
                              case restq110x13 =>
                                (try simp only [Act.put, List.setIfInBounds_toArray, List.set_cons_zero, List.set_cons_succ])
                                refine wpAnyH_take (i := 14) (oi := { dst := some 61, op := _, type := _, pos := _, after := _, guard := _ }) (v := ?vq110x14) rfl (by kernel_rfl) (by kernel_rfl) (by kernel_rfl) (fun _ _ _ h => h) (Or.inl ⟨by rfl, ?hyq110x14⟩) (by assumption) ?restq110x14
                                case hyq110x14 => (intro w hSw; (try dsimp only at hSw); go_simp; (try with_reducible rfl))
                                case restq110x14 =>
                                  (try simp only [Act.put, List.setIfInBounds_toArray, List.set_cons_zero, List.set_cons_succ])
                                  refine wpAnyH_take (i := 15) (oi := { dst := some 62, op := _, type := _, pos := _, after := _, guard := _ }) (v := ?vq110x15) rfl (by kernel_rfl) (by kernel_rfl) (by kernel_rfl) (fun _ _ _ h => h) (Or.inl ⟨by rfl, ?hyq110x15⟩) (by assumption) ?restq110x15
                                  case hyq110x15 => (intro w hSw; (try dsimp only at hSw); go_simp; (try with_reducible rfl))
                                  case restq110x15 =>
                                    (try simp only [Act.put, List.setIfInBounds_toArray, List.set_cons_zero, List.set_cons_succ])
                                    refine wpAnyH_take (i := 16) (oi := { dst := some 63, op := _, type := _, pos := _, after := _, guard := _ }) (v := ?vq110x16) rfl (by kernel_rfl) (by kernel_rfl) (by kernel_rfl) (fun _ _ _ h => h) (Or.inl ⟨by rfl, ?hyq110x16⟩) (by assumption) ?restq110x16
                                    case hyq110x16 => (intro w hSw; (try dsimp only at hSw); go_simp; (try with_reducible rfl))
                                    case restq110x16 =>
                                      (try simp only [Act.put, List.setIfInBounds_toArray, List.set_cons_zero, List.set_cons_succ])
                                      refine wpAnyH_ready (rs := [17]) (by kernel_rfl) (by simp) ?_
                                      refine AllReadyH.cons rfl (fun K hK => ?_) AllReadyH.nil
                                      go_simp
                                      go_at_call 10
                                      refine (RAW.out _ ?_ ).mono ?_
                                      · exact L.below
                                      rintro e wh ⟨rfl, be⟩
                                      replace L := L.step be
                                      clear be
                                      go_wp2_with fail
                                      refine hK.out _ _ (by first | (with_reducible exact ⟨L.b0.c60, L.b0.c61, L.b0.c62, L.b0.c63, L.b0.c64, L.b0.c65⟩) | exact ⟨L.b0.c60, L.b0.c61, L.b0.c62, L.b0.c63, L.b0.c64, L.b0.c65⟩) (fun hHeld2 => ?_)
                                      clear hK K hHeld
                                      have hHeld := hHeld2
                                      clear hHeld2
                                      (try simp only [Act.put, List.setIfInBounds_toArray, List.set_cons_zero, List.set_cons_succ])
                                      refine wpAnyH_take (i := 18) (oi := { dst := some 65, op := _, type := _, pos := _, after := _, guard := _ }) (v := ?vq110x18) rfl (by kernel_rfl) (by kernel_rfl) (by kernel_rfl) (fun _ _ _ h => h) (Or.inl ⟨by rfl, ?hyq110x18⟩) (by assumption) ?restq110x18
                                      case hyq110x18 => (intro w hSw; (try dsimp only at hSw); go_simp; (try with_reducible rfl))
                                      case restq110x18 =>
                                        (try simp only [Act.put, List.setIfInBounds_toArray, List.set_cons_zero, List.set_cons_succ])
                                        refine wpAnyH_take (i := 19) (oi := { dst := some 66, op := _, type := _, pos := _, after := _, guard := _ }) (v := undef) rfl (by kernel_rfl) (by kernel_rfl) (by kernel_rfl) (fun _ _ _ h => h) (Or.inr ⟨by rfl, rfl⟩) (by assumption) ?_
                                        (try simp only [Act.put, List.setIfInBounds_toArray, List.set_cons_zero, List.set_cons_succ])
                                        refine wpAnyH_take (i := 20) (oi := { dst := some 67, op := _, type := _, pos := _, after := _, guard := _ }) (v := undef) rfl (by kernel_rfl) (by kernel_rfl) (by kernel_rfl) (fun _ _ _ h => h) (Or.inr ⟨by rfl, rfl⟩) (by assumption) ?_
                                        (try simp only [Act.put, List.setIfInBounds_toArray, List.set_cons_zero, List.set_cons_succ])
                                        refine wpAnyH_take (i := 21) (oi := { dst := some 68, op := _, type := _, pos := _, after := _, guard := _ }) (v := undef) rfl (by kernel_rfl) (by kernel_rfl) (by kernel_rfl) (fun _ _ _ h => h) (Or.inr ⟨by rfl, rfl⟩) (by assumption) ?_
                                        (try simp only [Act.put, List.setIfInBounds_toArray, List.set_cons_zero, List.set_cons_succ])
                                        refine wpAnyH_take (i := 22) (oi := { dst := some 69, op := _, type := _, pos := _, after := _, guard := _ }) (v := undef) rfl (by kernel_rfl) (by kernel_rfl) (by kernel_rfl) (fun _ _ _ h => h) (Or.inr ⟨by rfl, rfl⟩) (by assumption) ?_
                                        (try simp only [Act.put, List.setIfInBounds_toArray, List.set_cons_zero, List.set_cons_succ])
                                        refine wpAnyH_take (i := 23) (oi := { dst := some 70, op := _, type := _, pos := _, after := _, guard := _ }) (v := ?vq110x23) rfl (by kernel_rfl) (by kernel_rfl) (by kernel_rfl) (fun _ _ _ h => h) (Or.inl ⟨by rfl, ?hyq110x23⟩) (by assumption) ?restq110x23
                                        case hyq110x23 => (intro w hSw; (try dsimp only at hSw); go_simp; (try with_reducible rfl))
                                        case restq110x23 =>
                                          (try simp only [Act.put, List.setIfInBounds_toArray, List.set_cons_zero, List.set_cons_succ])
                                          refine wpAnyH_take (i := 24) (oi := { dst := some 71, op := _, type := _, pos := _, after := _, guard := _ }) (v := ?vq110x24) rfl (by kernel_rfl) (by kernel_rfl) (by kernel_rfl) (fun _ _ _ h => h) (Or.inl ⟨by rfl, ?hyq110x24⟩) (by assumption) ?restq110x24
                                          case hyq110x24 => (intro w hSw; (try dsimp only at hSw); go_simp; (try with_reducible rfl))
                                          case restq110x24 =>
                                            (try simp only [Act.put, List.setIfInBounds_toArray, List.set_cons_zero, List.set_cons_succ])
                                            refine wpAnyH_done (by kernel_rfl) ?_ _
                                            refine NoPanic.normal ?_
                                            go_wp2_with fail
                                            go_meet
                                            exact ⟨rfl, L.below⟩
        · skip
          replace L := L.drew
          have c00 := L.b0.c60
          have c01 := L.b0.c61
          have c02 := L.b0.c62
          have c03 := L.b0.c63
          have c04 := L.b0.c64
          have c05 := L.b0.c65
          refine wp_region_noPanic ?_
          refine wp_region_held_drew (S := fun w' => w'.cell? ⟨w.heap.size, 0, none⟩ = some (.bool b0) ∧ w'.cell? ⟨w.heap.size, 1, none⟩ = some (.slice a0 len0 cap0) ∧ w'.cell? ⟨w.heap.size, 2, none⟩ = some (.int .i64 f0) ∧ w'.cell? ⟨w.heap.size, 3, none⟩ = some (.bool bb0) ∧ w'.cell? ⟨w.heap.size, 4, none⟩ = some (.slice aa0 ll0 cc0) ∧ w'.cell? ⟨w.heap.size, 5, none⟩ = some (.int .i64 ff0)) (by kernel_rfl) ?rgsq111x (fun hHeld => ?rgrq111x)
          case rgsq111x => exact ⟨L.b0.c60, L.b0.c61, L.b0.c62, L.b0.c63, L.b0.c64, L.b0.c65⟩
          case rgrq111x =>
            refine wpAnyH_take (i := 0) (oi := { dst := some 47, op := _, type := _, pos := _, after := _, guard := _ }) (v := ?vq111x0) rfl (by kernel_rfl) (by kernel_rfl) (by kernel_rfl) (fun _ _ _ h => h) (Or.inl ⟨by rfl, ?hyq111x0⟩) (by assumption) ?restq111x0
            case hyq111x0 => (intro w hSw; (try dsimp only at hSw); go_simp; (try with_reducible rfl))
            case restq111x0 =>
              (try simp only [Act.put, List.setIfInBounds_toArray, List.set_cons_zero, List.set_cons_succ])
              refine wpAnyH_take (i := 1) (oi := { dst := some 48, op := _, type := _, pos := _, after := _, guard := _ }) (v := ?vq111x1) rfl (by kernel_rfl) (by kernel_rfl) (by kernel_rfl) (fun _ _ _ h => h) (Or.inl ⟨by rfl, ?hyq111x1⟩) (by assumption) ?restq111x1
              case hyq111x1 => (intro w hSw; (try dsimp only at hSw); go_simp; (try with_reducible rfl))
              case restq111x1 =>
                (try simp only [Act.put, List.setIfInBounds_toArray, List.set_cons_zero, List.set_cons_succ])
                refine wpAnyH_ready (rs := [2]) (by kernel_rfl) (by simp) ?_
                refine AllReadyH.cons rfl (fun K hK => ?_) AllReadyH.nil
                go_simp
                go_at_call 9
                refine (RLO.out _ ?_ ).mono ?_
                · exact L.below
                rintro e wh ⟨rfl, be⟩
                replace L := L.step be
                clear be
                go_wp2_with fail
                refine hK.out _ _ (by first | (with_reducible exact ⟨L.b0.c60, L.b0.c61, L.b0.c62, L.b0.c63, L.b0.c64, L.b0.c65⟩) | exact ⟨L.b0.c60, L.b0.c61, L.b0.c62, L.b0.c63, L.b0.c64, L.b0.c65⟩) (fun hHeld2 => ?_)
                clear hK K hHeld
                have hHeld := hHeld2
                clear hHeld2
                (try simp only [Act.put, List.setIfInBounds_toArray, List.set_cons_zero, List.set_cons_succ])
                refine wpAnyH_take (i := 3) (oi := { dst := some 50, op := _, type := _, pos := _, after := _, guard := _ }) (v := ?vq111x3) rfl (by kernel_rfl) (by kernel_rfl) (by kernel_rfl) (fun _ _ _ h => h) (Or.inl ⟨by rfl, ?hyq111x3⟩) (by assumption) ?restq111x3
                case hyq111x3 => (intro w hSw; (try dsimp only at hSw); go_simp; (try with_reducible rfl))
                case restq111x3 =>
                  (try simp only [Act.put, List.setIfInBounds_toArray, List.set_cons_zero, List.set_cons_succ])
                  refine wpAnyH_take (i := 4) (oi := { dst := some 51, op := _, type := _, pos := _, after := _, guard := _ }) (v := ?vq111x4) rfl (by kernel_rfl) (by kernel_rfl) (by kernel_rfl) (fun _ _ _ h => h) (Or.inl ⟨by rfl, ?hyq111x4⟩) (by assumption) ?restq111x4
                  case hyq111x4 => (intro w hSw; (try dsimp only at hSw); go_simp; (try with_reducible rfl))
                  case restq111x4 =>
                    (try simp only [Act.put, List.setIfInBounds_toArray, List.set_cons_zero, List.set_cons_succ])
                    refine wpAnyH_take (i := 5) (oi := { dst := some 52, op := _, type := _, pos := _, after := _, guard := _ }) (v := ?vq111x5) rfl (by kernel_rfl) (by kernel_rfl) (by kernel_rfl) (fun _ _ _ h => h) (Or.inl ⟨by rfl, ?hyq111x5⟩) (by assumption) ?restq111x5
                    case hyq111x5 => (intro w hSw; (try dsimp only at hSw); go_simp; (try with_reducible rfl))
                    case restq111x5 =>
                      (try simp only [Act.put, List.setIfInBounds_toArray, List.set_cons_zero, List.set_cons_succ])
                      refine wpAnyH_ready (rs := [6]) (by kernel_rfl) (by simp) ?_
                      refine AllReadyH.cons rfl (fun K hK => ?_) AllReadyH.nil
                      go_simp
                      go_at_call 9
                      refine (RHI.out _ ?_ ).mono ?_
                      · exact L.below
                      rintro e wh ⟨rfl, be⟩
                      replace L := L.step be
                      clear be
                      go_wp2_with fail
                      refine hK.out _ _ (by first | (with_reducible exact ⟨L.b0.c60, L.b0.c61, L.b0.c62, L.b0.c63, L.b0.c64, L.b0.c65⟩) | exact ⟨L.b0.c60, L.b0.c61, L.b0.c62, L.b0.c63, L.b0.c64, L.b0.c65⟩) (fun hHeld2 => ?_)
                      clear hK K hHeld
                      have hHeld := hHeld2
                      clear hHeld2
                      (try simp only [Act.put, List.setIfInBounds_toArray, List.set_cons_zero, List.set_cons_succ])
                      refine wpAnyH_take (i := 7) (oi := { dst := some 54, op := _, type := _, pos := _, after := _, guard := _ }) (v := ?vq111x7) rfl (by kernel_rfl) (by kernel_rfl) (by kernel_rfl) (fun _ _ _ h => h) (Or.inl ⟨by rfl, ?hyq111x7⟩) (by assumption) ?restq111x7
                      case hyq111x7 => (intro w hSw; (try dsimp only at hSw); go_simp; (try with_reducible rfl))
                      case restq111x7 =>
                        (try simp only [Act.put, List.setIfInBounds_toArray, List.set_cons_zero, List.set_cons_succ])
                        refine wpAnyH_take (i := 8) (oi := { dst := some 55, op := _, type := _, pos := _, after := _, guard := _ }) (v := ?vq111x8) rfl (by kernel_rfl) (by kernel_rfl) (by kernel_rfl) (fun _ _ _ h => h) (Or.inl ⟨by rfl, ?hyq111x8⟩) (by assumption) ?restq111x8
                        case hyq111x8 => (intro w hSw; (try dsimp only at hSw); go_simp; (try with_reducible rfl))
                        case restq111x8 =>
                          (try simp only [Act.put, List.setIfInBounds_toArray, List.set_cons_zero, List.set_cons_succ])
                          refine wpAnyH_take (i := 9) (oi := { dst := some 56, op := _, type := _, pos := _, after := _, guard := _ }) (v := ?vq111x9) rfl (by kernel_rfl) (by kernel_rfl) (by kernel_rfl) (fun _ _ _ h => h) (Or.inl ⟨by rfl, ?hyq111x9⟩) (by assumption) ?restq111x9
                          case hyq111x9 => (intro w hSw; (try dsimp only at hSw); go_simp; (try with_reducible rfl))
                          case restq111x9 =>
                            (try simp only [Act.put, List.setIfInBounds_toArray, List.set_cons_zero, List.set_cons_succ])
                            refine wpAnyH_take (i := 11) (oi := { dst := some 58, op := _, type := _, pos := _, after := _, guard := _ }) (v := ?vq111x11) rfl (by kernel_rfl) (by kernel_rfl) (by kernel_rfl) (fun _ _ _ h => h) (Or.inl ⟨by rfl, ?hyq111x11⟩) (by assumption) ?restq111x11
                            case hyq111x11 => (intro w hSw; (try dsimp only at hSw); go_simp; (try with_reducible rfl))
                            case restq111x11 =>
                              (try simp only [Act.put, List.setIfInBounds_toArray, List.set_cons_zero, List.set_cons_succ])
                              refine wpAnyH_ready (rs := [10]) (by kernel_rfl) (by simp) ?_
                              refine AllReadyH.cons rfl (fun K hK => ?_) AllReadyH.nil
                              go_simp
                              go_at_call 10
                              refine (RAW.out _ ?_ ).mono ?_
                              · exact L.below
                              rintro e wh ⟨rfl, be⟩
                              replace L := L.step be
                              clear be
                              go_wp2_with fail
                              refine hK.out _ _ (by first | (with_reducible exact ⟨L.b0.c60, L.b0.c61, L.b0.c62, L.b0.c63, L.b0.c64, L.b0.c65⟩) | exact ⟨L.b0.c60, L.b0.c61, L.b0.c62, L.b0.c63, L.b0.c64, L.b0.c65⟩) (fun hHeld2 => ?_)
                              clear hK K hHeld
                              have hHeld := hHeld2
                              clear hHeld2
                              (try simp only [Act.put, List.setIfInBounds_toArray, List.set_cons_zero, List.set_cons_succ])
                              refine wpAnyH_ready (rs := [12]) (by kernel_rfl) (by simp) ?_
                              refine AllReadyH.cons rfl (fun K hK => ?_) AllReadyH.nil
                              go_simp
                              go_at_call 11
                              refine (RRW.out _ ?_ ).mono ?_
                              · exact L.below
                              rintro e wh ⟨rfl, be⟩
                              replace L := L.step be
                              clear be
                              go_wp2_with fail
                              refine hK.out _ _ (by first | (with_reducible exact ⟨L.b0.c60, L.b0.c61, L.b0.c62, L.b0.c63, L.b0.c64, L.b0.c65⟩) | exact ⟨L.b0.c60, L.b0.c61, L.b0.c62, L.b0.c63, L.b0.c64, L.b0.c65⟩) (fun hHeld2 => ?_)
                              clear hK K hHeld
                              have hHeld := hHeld2
                              clear hHeld2
                              (try simp only [Act.put, List.setIfInBounds_toArray, List.set_cons_zero, List.set_cons_succ])
                              refine wpAnyH_take (i := 13) (oi := { dst := some 60, op := _, type := _, pos := _, after := _, guard := _ }) (v := ?vq111x13) rfl (by kernel_rfl) (by kernel_rfl) (by kernel_rfl) (fun _ _ _ h => h) (Or.inl ⟨by rfl, ?hyq111x13⟩) (by assumption) ?restq111x13
                              case hyq111x13 => (intro w hSw; (try dsimp only at hSw); go_simp; (try with_reducible rfl))
                              case restq111x13 =>
                                (try simp only [Act.put, List.setIfInBounds_toArray, List.set_cons_zero, List.set_cons_succ])
                                refine wpAnyH_take (i := 14) (oi := { dst := some 61, op := _, type := _, pos := _, after := _, guard := _ }) (v := ?vq111x14) rfl (by kernel_rfl) (by kernel_rfl) (by kernel_rfl) (fun _ _ _ h => h) (Or.inl ⟨by rfl, ?hyq111x14⟩) (by assumption) ?restq111x14
                                case hyq111x14 => (intro w hSw; (try dsimp only at hSw); go_simp; (try with_reducible rfl))
                                case restq111x14 =>
                                  (try simp only [Act.put, List.setIfInBounds_toArray, List.set_cons_zero, List.set_cons_succ])
                                  refine wpAnyH_take (i := 15) (oi := { dst := some 62, op := _, type := _, pos := _, after := _, guard := _ }) (v := ?vq111x15) rfl (by kernel_rfl) (by kernel_rfl) (by kernel_rfl) (fun _ _ _ h => h) (Or.inl ⟨by rfl, ?hyq111x15⟩) (by assumption) ?restq111x15
                                  case hyq111x15 => (intro w hSw; (try dsimp only at hSw); go_simp; (try with_reducible rfl))
                                  case restq111x15 =>
                                    (try simp only [Act.put, List.setIfInBounds_toArray, List.set_cons_zero, List.set_cons_succ])
                                    refine wpAnyH_take (i := 16) (oi := { dst := some 63, op := _, type := _, pos := _, after := _, guard := _ }) (v := ?vq111x16) rfl (by kernel_rfl) (by kernel_rfl) (by kernel_rfl) (fun _ _ _ h => h) (Or.inl ⟨by rfl, ?hyq111x16⟩) (by assumption) ?restq111x16
                                    case hyq111x16 => (intro w hSw; (try dsimp only at hSw); go_simp; (try with_reducible rfl))
                                    case restq111x16 =>
                                      (try simp only [Act.put, List.setIfInBounds_toArray, List.set_cons_zero, List.set_cons_succ])
                                      refine wpAnyH_ready (rs := [17]) (by kernel_rfl) (by simp) ?_
                                      refine AllReadyH.cons rfl (fun K hK => ?_) AllReadyH.nil
                                      go_simp
                                      go_at_call 10
                                      refine (RAW.out _ ?_ ).mono ?_
                                      · exact L.below
                                      rintro e wh ⟨rfl, be⟩
                                      replace L := L.step be
                                      clear be
                                      go_wp2_with fail
                                      refine hK.out _ _ (by first | (with_reducible exact ⟨L.b0.c60, L.b0.c61, L.b0.c62, L.b0.c63, L.b0.c64, L.b0.c65⟩) | exact ⟨L.b0.c60, L.b0.c61, L.b0.c62, L.b0.c63, L.b0.c64, L.b0.c65⟩) (fun hHeld2 => ?_)
                                      clear hK K hHeld
                                      have hHeld := hHeld2
                                      clear hHeld2
                                      (try simp only [Act.put, List.setIfInBounds_toArray, List.set_cons_zero, List.set_cons_succ])
                                      refine wpAnyH_take (i := 18) (oi := { dst := some 65, op := _, type := _, pos := _, after := _, guard := _ }) (v := ?vq111x18) rfl (by kernel_rfl) (by kernel_rfl) (by kernel_rfl) (fun _ _ _ h => h) (Or.inl ⟨by rfl, ?hyq111x18⟩) (by assumption) ?restq111x18
                                      case hyq111x18 => (intro w hSw; (try dsimp only at hSw); go_simp; (try with_reducible rfl))
                                      case restq111x18 =>
                                        (try simp only [Act.put, List.setIfInBounds_toArray, List.set_cons_zero, List.set_cons_succ])
                                        refine wpAnyH_take (i := 19) (oi := { dst := some 66, op := _, type := _, pos := _, after := _, guard := _ }) (v := ?vq111x19) rfl (by kernel_rfl) (by kernel_rfl) (by kernel_rfl) (fun _ _ _ h => h) (Or.inl ⟨by rfl, ?hyq111x19⟩) (by assumption) ?restq111x19
                                        case hyq111x19 => (intro w hSw; (try dsimp only at hSw); go_simp; (try with_reducible rfl))
                                        case restq111x19 =>
                                          (try simp only [Act.put, List.setIfInBounds_toArray, List.set_cons_zero, List.set_cons_succ])
                                          refine wpAnyH_take (i := 20) (oi := { dst := some 67, op := _, type := _, pos := _, after := _, guard := _ }) (v := ?vq111x20) rfl (by kernel_rfl) (by kernel_rfl) (by kernel_rfl) (fun _ _ _ h => h) (Or.inl ⟨by rfl, ?hyq111x20⟩) (by assumption) ?restq111x20
                                          case hyq111x20 => (intro w hSw; (try dsimp only at hSw); go_simp; (try with_reducible rfl))
                                          case restq111x20 =>
                                            (try simp only [Act.put, List.setIfInBounds_toArray, List.set_cons_zero, List.set_cons_succ])
                                            refine wpAnyH_ready (rs := [21]) (by kernel_rfl) (by simp) ?_
                                            refine AllReadyH.cons rfl (fun K hK => ?_) AllReadyH.nil
                                            go_simp
                                            go_at_call 9
                                            refine (RLO.out _ ?_ ).mono ?_
                                            · exact L.below
                                            rintro e wh ⟨rfl, be⟩
                                            replace L := L.step be
                                            clear be
                                            go_wp2_with fail
                                            refine hK.out _ _ (by first | (with_reducible exact ⟨L.b0.c60, L.b0.c61, L.b0.c62, L.b0.c63, L.b0.c64, L.b0.c65⟩) | exact ⟨L.b0.c60, L.b0.c61, L.b0.c62, L.b0.c63, L.b0.c64, L.b0.c65⟩) (fun hHeld2 => ?_)
                                            clear hK K hHeld
                                            have hHeld := hHeld2
                                            clear hHeld2
                                            (try simp only [Act.put, List.setIfInBounds_toArray, List.set_cons_zero, List.set_cons_succ])
                                            refine wpAnyH_take (i := 22) (oi := { dst := some 69, op := _, type := _, pos := _, after := _, guard := _ }) (v := ?vq111x22) rfl (by kernel_rfl) (by kernel_rfl) (by kernel_rfl) (fun _ _ _ h => h) (Or.inl ⟨by rfl, ?hyq111x22⟩) (by assumption) ?restq111x22
                                            case hyq111x22 => (intro w hSw; (try dsimp only at hSw); go_simp; (try with_reducible rfl))
                                            case restq111x22 =>
                                              (try simp only [Act.put, List.setIfInBounds_toArray, List.set_cons_zero, List.set_cons_succ])
                                              refine wpAnyH_take (i := 23) (oi := { dst := some 70, op := _, type := _, pos := _, after := _, guard := _ }) (v := ?vq111x23) rfl (by kernel_rfl) (by kernel_rfl) (by kernel_rfl) (fun _ _ _ h => h) (Or.inl ⟨by rfl, ?hyq111x23⟩) (by assumption) ?restq111x23
                                              case hyq111x23 => (intro w hSw; (try dsimp only at hSw); go_simp; (try with_reducible rfl))
                                              case restq111x23 =>
                                                (try simp only [Act.put, List.setIfInBounds_toArray, List.set_cons_zero, List.set_cons_succ])
                                                refine wpAnyH_take (i := 24) (oi := { dst := some 71, op := _, type := _, pos := _, after := _, guard := _ }) (v := ?vq111x24) rfl (by kernel_rfl) (by kernel_rfl) (by kernel_rfl) (fun _ _ _ h => h) (Or.inl ⟨by rfl, ?hyq111x24⟩) (by assumption) ?restq111x24
                                                case hyq111x24 => (intro w hSw; (try dsimp only at hSw); go_simp; (try with_reducible rfl))
                                                case restq111x24 =>
                                                  (try simp only [Act.put, List.setIfInBounds_toArray, List.set_cons_zero, List.set_cons_succ])
                                                  refine wpAnyH_done (by kernel_rfl) ?_ _
                                                  refine NoPanic.normal ?_
                                                  go_wp2_with fail
                                                  go_meet
                                                  exact ⟨rfl, L.below⟩
  case rest =>
    obtain ⟨rfl, bw⟩ := hcut
    replace L := LV.out.step bw
    clear LV RAW RRW RLO RHI bw
    generalize wc = wd at *
    have mk := fun v u W h1 h2 => i10make_any m e n f v u W h1 h2 (by omega) (by omega) (by omega) (by omega) dvm dvn
    have pt := fun v W h => i10point_any m e v W h (by omega) (by omega) dvm
    have cm := fun v u W h1 h2 => rcmp8_any m e n f v u W h1 h2 (by omega) (by omega) (by omega) (by omega)
    have s1 := fun v u W h1 h2 => r10same_any m e n f m e n f v u W h1 h2 (by omega) (by omega) (by omega) (by omega) (by omega) (by omega) (by omega) (by omega)
    have s2 := fun v u W h1 h2 => r10same_any m e m e m e m e v u W h1 h2 (by omega) (by omega) (by omega) (by omega) (by omega) (by omega) (by omega) (by omega)
    have sz := fun v u W h1 h2 => r10same_any 0 0 0 0 0 0 0 0 v u W h1 h2 zl0 zl0 zl0 zl0 (by omega) (by omega) (by omega) (by omega)
    rw [show ((decide (e = e) && decide (m = m)) && (decide (f = f) && decide (n = n))) = true from by simp] at s1
    rw [show ((decide (e = e) && decide (m = m)) && (decide (e = e) && decide (m = m))) = true from by simp] at s2
    rw [show ((decide ((0 : Int) = 0) && decide ((0 : Int) = 0)) && (decide ((0 : Int) = 0) && decide ((0 : Int) = 0))) = true from rfl] at sz
    unfold RetMk at mk
    obtain ⟨K, hK⟩ : ∃ K, dcm m e n f = K := ⟨_, rfl⟩
    rw [hK] at mk
    unfold dcm at hK
    rw [hK] at cm
    have PT := Lib.hid pt
    have CM := Lib.hid cm
    have S1 := Lib.hid s1
    have S2 := Lib.hid s2
    have SZ := Lib.hid sz
    clear pt cm s1 s2 sz hK dvm dvn lm ln x1e x2e x1f x2f
    by_cases q : K ≤ 0
    · simp only [if_pos q] at mk
      have MK := Lib.hid mk
      clear mk
      have b1 : decide (0 < K) = false := decide_eq_false (by omega)
      have c00 := L.b0.c30
      have c01 := L.b0.c31
      have c02 := L.b0.c32
      have c10 := L.tl.b0.c30
      have c11 := L.tl.b0.c31
      have c12 := L.tl.b0.c32
      (try go_wp2_with fail)
      refine (MK.out _ _ _ (isD_n (m := m) (e := e) (s := .slice A (zl m) c) (L.getN (by simp))) (isD_n (m := n) (e := f) (s := .slice B (zl n) d) (L.getN (by simp)))).mono ?_
      rintro e w21 ⟨vv, rfl, ii, be⟩
      clear c00 c01 c02 c10 c11 c12
      obtain ⟨A5, c5, B5, d5, rfl, ia, ib⟩ := ii.form
      replace L := ((L.step be).n ib).n ia
      clear be ii ia ib
      have hl5 := L.b0.lt
      replace L := L.varI w21.heap.size rfl (ng m) A5 (zl m) c5 e (ng n) B5 (zl n) d5 f
      have c00 := L.b0.c60
      have c01 := L.b0.c61
      have c02 := L.b0.c62
      have c03 := L.b0.c63
      have c04 := L.b0.c64
      have c05 := L.b0.c65
      have c10 := L.tl.b0.c30
      have c11 := L.tl.b0.c31
      have c12 := L.tl.b0.c32
      have c20 := L.tl.tl.b0.c30
      have c21 := L.tl.tl.b0.c31
      have c22 := L.tl.tl.b0.c32
      go_wp2_with fail
      obtain ⟨g5, hg⟩ : ∃ g, w21.heap.size = g := ⟨_, rfl⟩
      rw [hg] at L hl5 c00 c01 c02 c03 c04 c05 ⊢
      clear hg
      refine (CM.out _ _ _ (isD_n (m := m) (e := e) (s := .slice A (zl m) c) (L.getN (by simp))) (isD_n (m := n) (e := f) (s := .slice B (zl n) d) (L.getN (by simp)))).mono ?_
      rintro e w22 ⟨rfl, be⟩
      clear c00 c01 c02 c03 c04 c05 c10 c11 c12 c20 c21 c22
      replace L := L.step be
      clear be
      have c00 := L.b0.c60
      have c01 := L.b0.c61
      have c02 := L.b0.c62
      have c03 := L.b0.c63
      have c04 := L.b0.c64
      have c05 := L.b0.c65
      have c10 := L.tl.b0.c30
      have c11 := L.tl.b0.c31
      have c12 := L.tl.b0.c32
      have c20 := L.tl.tl.b0.c30
      have c21 := L.tl.tl.b0.c31
      have c22 := L.tl.tl.b0.c32
      go_wp2_with fail
      replace L := L.drew
      clear c00 c01 c02 c03 c04 c05 c10 c11 c12 c20 c21 c22
      have c00 := L.b0.c60
      have c01 := L.b0.c61
      have c02 := L.b0.c62
      have c03 := L.b0.c63
      have c04 := L.b0.c64
      have c05 := L.b0.c65
      have c10 := L.tl.b0.c30
      have c11 := L.tl.b0.c31
      have c12 := L.tl.b0.c32
      have c20 := L.tl.tl.b0.c30
      have c21 := L.tl.tl.b0.c31
      have c22 := L.tl.tl.b0.c32
      go_region_held3 (fun w' => w'.cell? ⟨g5, 0, none⟩ = some (.bool (ng m)) ∧ w'.cell? ⟨g5, 1, none⟩ = some (.slice A5 (zl m) c5) ∧ w'.cell? ⟨g5, 2, none⟩ = some (.int .i64 e) ∧ w'.cell? ⟨g5, 3, none⟩ = some (.bool (ng n)) ∧ w'.cell? ⟨g5, 4, none⟩ = some (.slice B5 (zl n) d5) ∧ w'.cell? ⟨g5, 5, none⟩ = some (.int .i64 f) ∧ w'.cell? ⟨g2, 0, none⟩ = some (.bool (ng n)) ∧ w'.cell? ⟨g2, 1, none⟩ = some (.slice B (zl n) d) ∧ w'.cell? ⟨g2, 2, none⟩ = some (.int .i64 f) ∧ w'.cell? ⟨g, 0, none⟩ = some (.bool (ng m)) ∧ w'.cell? ⟨g, 1, none⟩ = some (.slice A (zl m) c) ∧ w'.cell? ⟨g, 2, none⟩ = some (.int .i64 e)) (first | (with_reducible exact ⟨L.b0.c60, L.b0.c61, L.b0.c62, L.b0.c63, L.b0.c64, L.b0.c65, L.tl.b0.c30, L.tl.b0.c31, L.tl.b0.c32, L.tl.tl.b0.c30, L.tl.tl.b0.c31, L.tl.tl.b0.c32⟩) | exact ⟨L.b0.c60, L.b0.c61, L.b0.c62, L.b0.c63, L.b0.c64, L.b0.c65, L.tl.b0.c30, L.tl.b0.c31, L.tl.b0.c32, L.tl.tl.b0.c30, L.tl.tl.b0.c31, L.tl.tl.b0.c32⟩) (first | (go_at_call 14; (with_reducible refine (S1.out _ _ _ ?_ ?_ ).mono ?_); (· (refine isI_n (L.getN ?_) (L.getN ?_) <;> (repeat (first | (with_reducible exact List.mem_cons_self) | apply List.mem_cons_of_mem)))); (· (refine isI_n (L.getN ?_) (L.getN ?_) <;> (repeat (first | (with_reducible exact List.mem_cons_self) | apply List.mem_cons_of_mem)))); rintro e wh ⟨rfl, be⟩; replace L := L.step be; clear be) | (go_at_call 15; (with_reducible refine (PT.out _ _ ?_ ).mono ?_); (· (refine isD_n (L.getN ?_); (repeat (first | (with_reducible exact List.mem_cons_self) | apply List.mem_cons_of_mem)))); rintro e wh ⟨vh, rfl, ii, be⟩; obtain ⟨A9, c9, B9, d9, rfl, ia, ib⟩ := ii.form; replace L := ((L.step be).n ib).n ia; clear be ii ia ib) | (go_at_call 14; (with_reducible refine (S2.out _ _ _ ?_ ?_ ).mono ?_); (· (refine isI_n (L.getN ?_) (L.getN ?_) <;> (repeat (first | (with_reducible exact List.mem_cons_self) | apply List.mem_cons_of_mem)))); (· (refine isI_n (L.getN ?_) (L.getN ?_) <;> (repeat (first | (with_reducible exact List.mem_cons_self) | apply List.mem_cons_of_mem)))); rintro e wh ⟨rfl, be⟩; replace L := L.step be; clear be) | (go_at_call 14; (with_reducible refine (S2.out _ _ _ ?_ ?_ ).mono ?_); (· (refine isI_n (L.getN ?_) (L.getN ?_) <;> (repeat (first | (with_reducible exact List.mem_cons_self) | apply List.mem_cons_of_mem)))); (· (refine isI_n (L.getN ?_) (L.getN ?_) <;> (repeat (first | (with_reducible exact List.mem_cons_self) | apply List.mem_cons_of_mem)))); rintro e wh ⟨rfl, be⟩; replace L := L.step be; clear be))
      clear c00 c01 c02 c03 c04 c05 c10 c11 c12 c20 c21 c22
      go_wp2_with fail
      go_ret
      exact ⟨rfl, L.below⟩
    · simp only [if_neg q] at mk
      have MK := Lib.hid mk
      clear mk
      have b1 : decide (0 < K) = true := decide_eq_true (by omega)
      have c00 := L.b0.c30
      have c01 := L.b0.c31
      have c02 := L.b0.c32
      have c10 := L.tl.b0.c30
      have c11 := L.tl.b0.c31
      have c12 := L.tl.b0.c32
      (try go_wp2_with fail)
      refine (MK.out _ _ _ (isD_n (m := m) (e := e) (s := .slice A (zl m) c) (L.getN (by simp))) (isD_n (m := n) (e := f) (s := .slice B (zl n) d) (L.getN (by simp)))).mono ?_
      rintro e w21 ⟨vv, rfl, ii, be⟩
      clear c00 c01 c02 c10 c11 c12
      obtain ⟨A5, c5, B5, d5, rfl, ia, ib⟩ := ii.form
      replace L := ((L.step be).n ib).n ia
      clear be ii ia ib
      have hl5 := L.b0.lt
      replace L := L.varI w21.heap.size rfl (ng 0) A5 (zl 0) c5 0 (ng 0) B5 (zl 0) d5 0
      have c00 := L.b0.c60
      have c01 := L.b0.c61
      have c02 := L.b0.c62
      have c03 := L.b0.c63
      have c04 := L.b0.c64
      have c05 := L.b0.c65
      have c10 := L.tl.b0.c30
      have c11 := L.tl.b0.c31
      have c12 := L.tl.b0.c32
      have c20 := L.tl.tl.b0.c30
      have c21 := L.tl.tl.b0.c31
      have c22 := L.tl.tl.b0.c32
      go_wp2_with fail
      obtain ⟨g5, hg⟩ : ∃ g, w21.heap.size = g := ⟨_, rfl⟩
      rw [hg] at L hl5 c00 c01 c02 c03 c04 c05 ⊢
      clear hg
      refine (CM.out _ _ _ (isD_n (m := m) (e := e) (s := .slice A (zl m) c) (L.getN (by simp))) (isD_n (m := n) (e := f) (s := .slice B (zl n) d) (L.getN (by simp)))).mono ?_
      rintro e w22 ⟨rfl, be⟩
      clear c00 c01 c02 c03 c04 c05 c10 c11 c12 c20 c21 c22
      replace L := L.step be
      clear be
      have c00 := L.b0.c60
      have c01 := L.b0.c61
      have c02 := L.b0.c62
      have c03 := L.b0.c63
      have c04 := L.b0.c64
      have c05 := L.b0.c65
      go_wp2_with fail
      refine (SZ.out _ _ _ (isI_n (s := .slice A5 (zl 0) c5) (t := .slice B5 (zl 0) d5) (L.getN (by simp)) (L.getN (by simp))) (isI_zero _)).mono ?_
      rintro e w23 ⟨rfl, be⟩
      clear c00 c01 c02 c03 c04 c05
      replace L := L.step be
      clear be
      go_wp2_with fail
      go_ret
      exact ⟨rfl, L.below⟩

end Go.Proofs.Ytgcmdlannbobgaa
