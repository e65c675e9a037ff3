/- The reference's series: Ln2Span. -/
import Derived.Test.YtfnklkdbieikeaaGreatDoorRefCoF
import Derived.Deep.RegionHeld3
import Derived.Deep.DrawnRows
import Derived.Deep.Cut
import Derived.Deep.CutRange
namespace Go.Proofs.YtfnklkdbieikeaaGreatDoor
open Go.RowKit
set_option linter.unusedVariables false
set_option linter.unusedSimpArgs false
set_option maxRecDepth 100000
attribute [local go_sem ↓] Go.wp_at_zero Go.wp_at_succ

set_option maxHeartbeats 16000000 in
theorem s13ln_any (v : Nat) (w : World) (hv : v ≤ 10000) :
    Calls Tryz.prog 31 #[.int .i64 (v : Int)] w (RetSp w (lnL v) (lnH v)) := by
  have HV := Lib.hid hv
  have g1 := fun W => s13of_any 1 v W (by omega) (by omega) (by omega)
  have g0 := fun W => s13of_any 0 v W (by omega) (by omega) (by omega)
  rw [Int.one_mul] at g1
  rw [Int.zero_mul] at g0
  have t0 := tm_one v
  have q0 := at_first (n := 3) (by omega) v
  have z0 := t0.abs.1.zl
  have g2 := fun x W h => s13over_any (2 ^ v) (2 ^ v) 3 x W h (by omega) (by omega) (Int.le_refl _) (by omega) (by omega)
  have HXY := Lib.hid (show lnL v = ((lnR v 0 (2 ^ v / 3) (cdv (2 ^ v) 3) 0 0).1 - 2) * 2 ∧ lnH v = ((lnR v 0 (2 ^ v / 3) (cdv (2 ^ v) 3) 0 0).2 + 2) * 2 from ⟨rfl, rfl⟩)
  generalize lnL v = X at *
  generalize lnH v = Y at *
  generalize (2 : Int) ^ v = P at *
  obtain ⟨a, ha⟩ : ∃ z, P / 3 = z := ⟨_, rfl⟩
  obtain ⟨b, hb⟩ : ∃ z, cdv P 3 = z := ⟨_, rfl⟩
  rw [ha, hb] at g2 q0 HXY
  obtain ⟨R, hR⟩ : ∃ z, lnR v 0 a b 0 0 = z := ⟨_, rfl⟩
  rw [hR] at HXY
  have HR := Lib.hid (And.intro q0 hR)
  have G0 := Lib.hid g0
  have G1 := Lib.hid g1
  have G2 := Lib.hid g2
  clear g0 g1 g2 hR q0 t0 z0 ha hb
  go_enter Tryz.func31, Tryz.ntmps31
  have L := ((Lq.mk0 w).varS (w.heap.size) (by simp) false none 0 0 false none 0 0)
  (try go_wp2_with fail)
  obtain ⟨V, hV⟩ : ∃ V, w.alloc (.cells #[.bool false, .slice none 0 0, .bool false, .slice none 0 0] 57) = V := ⟨_, rfl⟩
  rw [hV] at L ⊢
  clear hV
  have hwV := L.b0.lt
  have LL := Lib.hid L
  clear L
  have L := Lq.mk0 V
  refine (G1.out _).mono ?_
  rintro e w1 ⟨vv, rfl, iq, be⟩
  obtain ⟨A5, c5, B5, d5, rfl, ia, ib⟩ := iq.form
  replace L := ((L.step be).n ib).n ia
  clear be iq ia ib
  go_wp2_with fail
  refine (G2.out _ _ (isS_n (a := P) (b := P) (s := .slice A5 (zl P) c5) (t := .slice B5 (zl P) d5) (L.getN (by simp)) (L.getN (by simp)))).mono ?_
  rintro e w2 ⟨vv, rfl, iq, be⟩
  obtain ⟨A1, c1, B1, d1, rfl, ia, ib⟩ := iq.form
  replace L := ((L.step be).n ib).n ia
  clear be iq ia ib
  have hVt : V.heap.size ≤ w2.heap.size := L.below.size
  replace L := L.varS w2.heap.size rfl (ng a) A1 (zl a) c1 (ng b) B1 (zl b) d1
  have c00 := L.b0.c40
  have c01 := L.b0.c41
  have c02 := L.b0.c42
  have c03 := L.b0.c43
  go_wp2_with fail
  clear c00 c01 c02 c03
  obtain ⟨gt, hgt⟩ : ∃ g9, w2.heap.size = g9 := ⟨_, rfl⟩
  rw [hgt] at L hVt ⊢
  clear hgt
  refine (G0.out _).mono ?_
  rintro e w3 ⟨vv, rfl, iq, be⟩
  obtain ⟨A2, c2, B2, d2, rfl, ia, ib⟩ := iq.form
  replace L := ((L.step be).n ib).n ia
  clear be iq ia ib
  have hlt1 := L.b0.lt
  replace L := L.varS w3.heap.size rfl (ng 0) A2 (zl 0) c2 (ng 0) B2 (zl 0) d2
  have c00 := L.b0.c40
  have c01 := L.b0.c41
  have c02 := L.b0.c42
  have c03 := L.b0.c43
  have c10 := L.tl.b0.c40
  have c11 := L.tl.b0.c41
  have c12 := L.tl.b0.c42
  have c13 := L.tl.b0.c43
  go_wp2_with fail
  clear c00 c01 c02 c03 c10 c11 c12 c13
  obtain ⟨gs, hgs⟩ : ∃ g9, w3.heap.size = g9 := ⟨_, rfl⟩
  rw [hgs] at L hlt1 ⊢
  clear hgs
  replace L := L.swap
  clear G0 G1 G2
  go_loopw [5] (fun i wr => ∃ (f k : Nat) (a b s u : Int) (A1 B1 A2 B2 : Option Addr) (c1 d1 c2 d2 : Nat), i = .int .i64 (k : Int) ∧ Lq V wr [(.slice A1 (zl a) c1, a.natAbs), (.slice B1 (zl b) d1, b.natAbs), (.slice A2 (zl s) c2, s.natAbs), (.slice B2 (zl u) d2, u.natAbs)] [] [] [(gt, 57, #[.bool (ng a), .slice A1 (zl a) c1, .bool (ng b), .slice B1 (zl b) d1]), (gs, 57, #[.bool (ng s), .slice A2 (zl s) c2, .bool (ng u), .slice B2 (zl u) d2])] ∧ Hid (SeI v f k a b s u ∧ lnR f k a b s u = R)) (fun i _ => v + 4 - (intOf i).toNat)
  case atStart => exact ⟨v, 0, a, b, 0, 0, A1, B1, A2, B2, c1, d1, c2, d2, by go_num, L.sub (by simp) (by simp), HR⟩
  case round =>
    clear L HR
    obtain ⟨f, k, a, b, s, u, A1, B1, A2, B2, c1, d1, c2, d2, rfl, L, HR⟩ := hrel
    obtain ⟨sa, sb, ss, su, hab, hk⟩ := HR.out.1.sizes HV.out
    have hfk := HR.out.1.2.1
    have tn0 := fun x W h => s13tiny_any a b x W h (by omega) (by omega)
    have hv := HV.out
    have hl1 := L.b0.lt
    have hl2 := L.tl.b0.lt
    cases ht : tnB a b
    · rw [ht] at tn0
      have TN := Lib.hid tn0
      obtain ⟨g, rfl, t2, n1, n2⟩ := ln_step HR.out.1 ht
      have x3 := t2.abs.1.zl
      have x4 := t2.abs.2.zl
      have hE := HR.out.2
      rw [n2] at hE
      have o1 := fun x W h => s13over_any a b (2 * (k : Int) + 1) x W h (by omega) (by omega) hab (by omega) (by omega)
      have o2 := fun x W h => s13over_any a b 9 x W h (by omega) (by omega) hab (by omega) (by omega)
      have o5 := fun x y W h j => s13add_any s u (a / (2 * (k : Int) + 1)) (cdv b (2 * (k : Int) + 1)) x y W h j (by omega) (by omega) (by omega) (by omega)
      have hkv : k ≤ v + 2 := by omega
      obtain ⟨q, hq⟩ : ∃ q : Int, 2 * (k : Int) + 1 = q := ⟨_, rfl⟩
      have w1 : IntKind.i64.wrap (2 * (k : Int)) = 2 * (k : Int) := by rw [IntKind.wrap_i64]; omega
      have w2 : IntKind.i64.wrap (2 * (k : Int) + 1) = q := by rw [IntKind.wrap_i64]; omega
      have w3 : IntKind.i64.wrap ((k : Int) + 1) = (k : Int) + 1 := by rw [IntKind.wrap_i64]; omega
      rw [hq] at o1 o5 n1 hE
      obtain ⟨p, hp⟩ : ∃ z, a / q = z := ⟨_, rfl⟩
      rw [hp] at o1 o5 n1 hE
      obtain ⟨r, hr⟩ : ∃ z, cdv b q = z := ⟨_, rfl⟩
      rw [hr] at o1 o5 n1 hE
      obtain ⟨a4, ha4⟩ : ∃ z, a / 9 = z := ⟨_, rfl⟩
      rw [ha4] at o2 n1 hE
      obtain ⟨b4, hb4⟩ : ∃ z, cdv b 9 = z := ⟨_, rfl⟩
      rw [hb4] at o2 n1 hE
      obtain ⟨s4, hs4⟩ : ∃ z, s + p = z := ⟨_, rfl⟩
      rw [hs4] at o5 n1 hE
      obtain ⟨u4, hu4⟩ : ∃ z, u + r = z := ⟨_, rfl⟩
      rw [hu4] at o5 n1 hE
      have O1 := Lib.hid o1
      have O2 := Lib.hid o2
      have O5 := Lib.hid o5
      have HR := Lib.hid (And.intro n1 hE)
      clear o1 o2 o5 tn0 hq hp hr ha4 hb4 hs4 hu4 t2 x3 x4 sa sb ss su hab n1 n2 hE ht hfk
      have cel00 := L.b0.c40
      have cel01 := L.b0.c41
      have cel02 := L.b0.c42
      have cel03 := L.b0.c43
      go_wp2_with fail
      refine (TN.out _ _ (isS_n (a := a) (b := b) (s := .slice A1 (zl a) c1) (t := .slice B1 (zl b) d1) (L.getN (by simp)) (L.getN (by simp)))).mono ?_
      rintro e w11 ⟨rfl, be⟩
      clear cel00 cel01 cel02 cel03
      replace L := L.step be
      clear be
      have hVs : V.heap.size ≤ gs := by omega
      replace L := L.drew
      (try go_wp2_with fail)
      have LD := L.swap
      clear L
      have cel00 := LD.b0.c40
      have f00 := LD.b0.fr 0
      have cel01 := LD.b0.c41
      have f01 := LD.b0.fr 1
      have cel02 := LD.b0.c42
      have f02 := LD.b0.fr 2
      have cel03 := LD.b0.c43
      have f03 := LD.b0.fr 3
      have cel10 := LD.tl.b0.c40
      have cel11 := LD.tl.b0.c41
      have cel12 := LD.tl.b0.c42
      have cel13 := LD.tl.b0.c43
      go_cut [22] from 16 to 22 (fun s9 wx => ∃ A6 c6 B6 d6, Lq V wx [(.slice A6 (zl s4) c6, s4.natAbs), (.slice B6 (zl u4) d6, u4.natAbs), (.slice A1 (zl a) c1, a.natAbs), (.slice B1 (zl b) d1, b.natAbs)] [] [] [(gs, 57, #[.bool (ng s4), .slice A6 (zl s4) c6, .bool (ng u4), .slice B6 (zl u4) d6]), (gt, 57, #[.bool (ng a), .slice A1 (zl a) c1, .bool (ng b), .slice B1 (zl b) d1])])
      case first =>
        go_region_with (first | (go_at_call 72; (with_reducible refine (O1.out _ _ ?_).mono ?_); (· (refine isS_n (LD.getN ?_) (LD.getN ?_) <;> (repeat (first | (with_reducible exact List.mem_cons_self) | apply List.mem_cons_of_mem)))); rintro e9 wh ⟨vh, rfl, iq, be⟩; obtain ⟨A5, c5, B5, d5, rfl, ia, ib⟩ := iq.form; replace LD := ((LD.step be).n ib).n ia; clear be iq ia ib; (try (have r0 := LD.b0.c40; have s0 := LD.b0.fr 0; have r1 := LD.b0.c41; have s1 := LD.b0.fr 1; have r2 := LD.b0.c42; have s2 := LD.b0.fr 2; have r3 := LD.b0.c43; have s3 := LD.b0.fr 3))) | (go_at_call 73; (with_reducible refine (O5.out _ _ _ ?_ ?_).mono ?_); (· (refine isS_n (LD.getN ?_) (LD.getN ?_) <;> (repeat (first | (with_reducible exact List.mem_cons_self) | apply List.mem_cons_of_mem)))); (· (refine isS_n (LD.getN ?_) (LD.getN ?_) <;> (repeat (first | (with_reducible exact List.mem_cons_self) | apply List.mem_cons_of_mem)))); rintro e9 wh ⟨vh, rfl, iq, be⟩; obtain ⟨A6, c6, B6, d6, rfl, ia, ib⟩ := iq.form; replace LD := ((LD.step be).n ib).n ia; clear be iq ia ib; (try (have r0 := LD.b0.c40; have s0 := LD.b0.fr 0; have r1 := LD.b0.c41; have s1 := LD.b0.fr 1; have r2 := LD.b0.c42; have s2 := LD.b0.fr 2; have r3 := LD.b0.c43; have s3 := LD.b0.fr 3))))
        all_goals
          have LP := LD.putS (by omega) (by first | (simp; done) | (simp; omega)) (ng s4) A6 (zl s4) c6 (ng u4) B6 (zl u4) d6
          unfold put4 at LP
          go_wp2_with fail
          go_meet
          exact ⟨A6, c6, B6, d6, LP.sub (by simp) (by simp)⟩
      case rest =>
        obtain ⟨A6, c6, B6, d6, L⟩ := hcut
        generalize wc = wd at *
        clear LD O1 O5
        have cel10 := L.tl.b0.c40
        have cel11 := L.tl.b0.c41
        have cel12 := L.tl.b0.c42
        have cel13 := L.tl.b0.c43
        (try go_wp2_with fail)
        refine (O2.out _ _ (isS_n (a := a) (b := b) (s := .slice A1 (zl a) c1) (t := .slice B1 (zl b) d1) (L.getN (by simp)) (L.getN (by simp)))).mono ?_
        rintro e w41 ⟨vv, rfl, iq, be⟩
        clear cel10 cel11 cel12 cel13
        obtain ⟨A8, c8, B8, d8, rfl, ia, ib⟩ := iq.form
        replace L := ((L.step be).n ib).n ia
        clear be iq ia ib
        have cel10 := L.tl.b0.c40
        have f10 := L.tl.b0.fr 0
        have cel11 := L.tl.b0.c41
        have f11 := L.tl.b0.fr 1
        have cel12 := L.tl.b0.c42
        have f12 := L.tl.b0.fr 2
        have cel13 := L.tl.b0.c43
        have f13 := L.tl.b0.fr 3
        replace L := L.swap.putS (by omega) (by first | (simp; done) | (simp; omega)) (ng a4) A8 (zl a4) c8 (ng b4) B8 (zl b4) d8
        unfold put4 at L
        go_wp2_with fail
        go_roundw
        case rel => exact ⟨g, k + 1, a4, b4, s4, u4, A8, B8, A6, B6, c8, d8, c6, d6, by go_num, L.sub (by simp) (by simp), HR⟩
        case measure => simp [intOf]; omega
    · rw [ht] at tn0
      have TN := Lib.hid tn0
      have hE := HR.out.2
      rw [lnR_end ht] at hE
      obtain ⟨e1, e2⟩ := HXY.out
      rw [← hE] at e1 e2
      have o1 := fun x W h => s13wide_any s u 2 x W h (by omega) (by omega) (by omega) (by omega)
      have m1 := zl_sub s 2
      have m2 := zl_add u 2
      have m3 : zl 2 ≤ 1 := len_le1 (by omega)
      have o2 := fun x W h => s13times_any (s - 2) (u + 2) 2 x W h (by omega) (by omega) (by omega) (by omega)
      rw [show (s - 2) * 2 = X from e1.symm, show (u + 2) * 2 = Y from e2.symm] at o2
      obtain ⟨s4, hs4⟩ : ∃ z, s - 2 = z := ⟨_, rfl⟩
      obtain ⟨u4, hu4⟩ : ∃ z, u + 2 = z := ⟨_, rfl⟩
      rw [hs4, hu4] at o1 o2
      have O1 := Lib.hid o1
      have O2 := Lib.hid o2
      clear o1 o2 e1 e2 hE tn0 HXY HR sa sb ss su hab ht m1 m2 m3 hs4 hu4
      have cel00 := L.b0.c40
      have cel01 := L.b0.c41
      have cel02 := L.b0.c42
      have cel03 := L.b0.c43
      go_wp2_with fail
      refine (TN.out _ _ (isS_n (a := a) (b := b) (s := .slice A1 (zl a) c1) (t := .slice B1 (zl b) d1) (L.getN (by simp)) (L.getN (by simp)))).mono ?_
      rintro e w11 ⟨rfl, be⟩
      clear cel00 cel01 cel02 cel03
      replace L := L.step be
      clear be
      have hvs := L.tl.b0
      have ha2 := L.getN (v := .slice A2 (zl s) c2) (x := s.natAbs) (by simp)
      have hb2 := L.getN (v := .slice B2 (zl u) d2) (x := u.natAbs) (by simp)
      have L := (((LL.out.step L.below).n hb2).n ha2).b hvs
      clear hvs ha2 hb2 LL
      have cel00 := L.b0.c40
      have cel01 := L.b0.c41
      have cel02 := L.b0.c42
      have cel03 := L.b0.c43
      go_wp2_with fail
      refine (O1.out _ _ (isS_n (a := s) (b := u) (s := .slice A2 (zl s) c2) (t := .slice B2 (zl u) d2) (L.getN (by simp)) (L.getN (by simp)))).mono ?_
      rintro e w12 ⟨vv, rfl, iq, be⟩
      clear cel00 cel01 cel02 cel03
      obtain ⟨A9, c9, B9, d9, rfl, ia, ib⟩ := iq.form
      replace L := ((L.step be).n ib).n ia
      clear be iq ia ib
      go_wp2_with fail
      refine (O2.out _ _ (isS_n (a := s4) (b := u4) (s := .slice A9 (zl s4) c9) (t := .slice B9 (zl u4) d9) (L.getN (by simp)) (L.getN (by simp)))).mono ?_
      rintro e w13 ⟨vv, rfl, iq, be⟩
      obtain ⟨A10, c10, B10, d10, rfl, ia, ib⟩ := iq.form
      replace L := ((L.step be).n ib).n ia
      clear be iq ia ib
      replace L := L.swap
      have n1 : w.heap.size ≠ gs := by omega
      have cel00 := L.b0.c40
      have f00 := L.b0.fr 0
      have cel01 := L.b0.c41
      have f01 := L.b0.fr 1
      have cel02 := L.b0.c42
      have f02 := L.b0.fr 2
      have cel03 := L.b0.c43
      have f03 := L.b0.fr 3
      go_wp2_with fail
      have LP := L.putS (by omega) (by first | (simp; done) | (simp; omega)) (ng X) A10 (zl X) c10 (ng Y) B10 (zl Y) d10
      have k0 := LP.b0.c40
      have k1 := LP.b0.c41
      have k2 := LP.b0.c42
      have k3 := LP.b0.c43
      unfold put4 at k0 k1 k2 k3
      exact bodyPost_ret (v := .agg #[.bool (ng X), .slice A10 (zl X) c10, .bool (ng Y), .slice B10 (zl Y) d10]) (by simp [results, Tryz.results31, go_sem, k0, k1, k2, k3]) rfl ⟨_, rfl, isS_n (LP.getN (by simp)) (LP.getN (by simp)), LP.below⟩

end Go.Proofs.YtfnklkdbieikeaaGreatDoor
