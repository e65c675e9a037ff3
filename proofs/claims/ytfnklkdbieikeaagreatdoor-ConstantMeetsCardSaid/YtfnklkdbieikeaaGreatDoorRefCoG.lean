/- The reference's series: ESpan. -/
import Derived.Test.YtfnklkdbieikeaaGreatDoorRefCoF
import Derived.Deep.RegionHeld3
import Derived.Deep.DrawnRows
import Derived.Deep.Cut
import Derived.Deep.CutRange
namespace Go.Proofs.YtfnklkdbieikeaaGreatDoor
open Go.RowKit
set_option linter.unusedVariables false
set_option linter.unusedSimpArgs false
set_option maxRecDepth 100000
attribute [local go_sem ↓] Go.wp_at_zero Go.wp_at_succ

set_option maxHeartbeats 16000000 in
theorem s13e_any (v : Nat) (w : World) (hv : v ≤ 10000) :
    Calls Tryz.prog 30 #[.int .i64 (v : Int)] w (RetSp w (exL v) (exH v)) := by
  have HV := Lib.hid hv
  have g1 := fun W => s13of_any 1 v W (by omega) (by omega) (by omega)
  rw [Int.one_mul] at g1
  have q0 := ex_first v
  have HXY := Lib.hid (show exL v = (exR (v + 2) 1 (2 ^ v) (2 ^ v) (2 ^ v) (2 ^ v)).1 - 3 ∧ exH v = (exR (v + 2) 1 (2 ^ v) (2 ^ v) (2 ^ v) (2 ^ v)).2 + 3 from ⟨rfl, rfl⟩)
  generalize exL v = X at *
  generalize exH v = Y at *
  generalize (2 : Int) ^ v = P at *
  obtain ⟨R, hR⟩ : ∃ z, exR (v + 2) 1 P P P P = z := ⟨_, rfl⟩
  rw [hR] at HXY
  have HR := Lib.hid (And.intro q0 hR)
  have G1 := Lib.hid g1
  clear g1 hR q0
  go_enter Tryz.func30, Tryz.ntmps30
  have L := ((Lq.mk0 w).varS (w.heap.size) (by simp) false none 0 0 false none 0 0)
  (try go_wp2_with fail)
  obtain ⟨V, hV⟩ : ∃ V, w.alloc (.cells #[.bool false, .slice none 0 0, .bool false, .slice none 0 0] 57) = V := ⟨_, rfl⟩
  rw [hV] at L ⊢
  clear hV
  have hwV := L.b0.lt
  have LL := Lib.hid L
  clear L
  have L := Lq.mk0 V
  refine (G1.out _).mono ?_
  rintro e w1 ⟨vv, rfl, iq, be⟩
  obtain ⟨A1, c1, B1, d1, rfl, ia, ib⟩ := iq.form
  replace L := ((L.step be).n ib).n ia
  clear be iq ia ib
  go_wp2_with fail
  refine (G1.out _).mono ?_
  rintro e w2 ⟨vv, rfl, iq, be⟩
  obtain ⟨A2, c2, B2, d2, rfl, ia, ib⟩ := iq.form
  replace L := ((L.step be).n ib).n ia
  clear be iq ia ib
  have hVt : V.heap.size ≤ w2.heap.size := L.below.size
  replace L := (L.varS w2.heap.size rfl (ng P) A1 (zl P) c1 (ng P) B1 (zl P) d1).varS (w2.heap.size + 1) (by simp) (ng P) A2 (zl P) c2 (ng P) B2 (zl P) d2
  have c00 := L.b0.c40
  have c01 := L.b0.c41
  have c02 := L.b0.c42
  have c03 := L.b0.c43
  have c10 := L.tl.b0.c40
  have c11 := L.tl.b0.c41
  have c12 := L.tl.b0.c42
  have c13 := L.tl.b0.c43
  go_wp2_with fail
  clear c00 c01 c02 c03 c10 c11 c12 c13
  obtain ⟨gt, hgt⟩ : ∃ g9, w2.heap.size = g9 := ⟨_, rfl⟩
  rw [hgt] at L hVt ⊢
  clear hgt
  replace L := L.swap
  clear G1
  go_loopw [5] (fun i wr => ∃ (f k : Nat) (a b s u : Int) (A1 B1 A2 B2 : Option Addr) (c1 d1 c2 d2 : Nat), i = .int .i64 (k : Int) ∧ Lq V wr [(.slice A1 (zl a) c1, a.natAbs), (.slice B1 (zl b) d1, b.natAbs), (.slice A2 (zl s) c2, s.natAbs), (.slice B2 (zl u) d2, u.natAbs)] [] [] [(gt, 57, #[.bool (ng a), .slice A1 (zl a) c1, .bool (ng b), .slice B1 (zl b) d1]), (gt + 1, 57, #[.bool (ng s), .slice A2 (zl s) c2, .bool (ng u), .slice B2 (zl u) d2])] ∧ Hid (SeE v f k a b s u ∧ exR f k a b s u = R)) (fun i _ => v + 4 - (intOf i).toNat)
  case atStart => exact ⟨v + 2, 1, P, P, P, P, A1, B1, A2, B2, c1, d1, c2, d2, by go_num, L.sub (by simp) (by simp), HR⟩
  case round =>
    clear L HR
    obtain ⟨f, k, a, b, s, u, A1, B1, A2, B2, c1, d1, c2, d2, rfl, L, HR⟩ := hrel
    obtain ⟨sa, sb, ss, su, hab, hk, hk1⟩ := HR.out.1.sizes HV.out
    have hfk := HR.out.1.2.2.1
    have tn0 := fun x W h => s13tiny_any a b x W h (by omega) (by omega)
    have hl1 := L.b0.lt
    have hl2 := L.tl.b0.lt
    cases ht : tnB a b
    · rw [ht] at tn0
      have TN := Lib.hid tn0
      obtain ⟨g, rfl, n1, n2⟩ := ex_step HR.out.1 ht
      have hE := HR.out.2
      rw [n2] at hE
      obtain ⟨sa3, sb3, _, _, hab3, _, _⟩ := n1.sizes HV.out
      have o1 := fun x W h => s13over_any a b (k : Int) x W h (by omega) (by omega) hab (by omega) (by omega)
      have o5 := fun x y W h j => s13add_any s u (a / (k : Int)) (cdv b (k : Int)) x y W h j (by omega) (by omega) (by omega) (by omega)
      have hkv : k ≤ v + 2 := by omega
      have w3 : IntKind.i64.wrap ((k : Int) + 1) = (k : Int) + 1 := by rw [IntKind.wrap_i64]; omega
      obtain ⟨a3, ha3⟩ : ∃ z, a / (k : Int) = z := ⟨_, rfl⟩
      rw [ha3] at o1 o5 n1 hE
      obtain ⟨b3, hb3⟩ : ∃ z, cdv b (k : Int) = z := ⟨_, rfl⟩
      rw [hb3] at o1 o5 n1 hE
      obtain ⟨s4, hs4⟩ : ∃ z, s + a3 = z := ⟨_, rfl⟩
      rw [hs4] at o5 n1 hE
      obtain ⟨u4, hu4⟩ : ∃ z, u + b3 = z := ⟨_, rfl⟩
      rw [hu4] at o5 n1 hE
      have O1 := Lib.hid o1
      have O5 := Lib.hid o5
      have HR := Lib.hid (And.intro n1 hE)
      clear o1 o5 tn0 ha3 hb3 hs4 hu4 sa sb ss su hab n1 n2 hE ht hfk sa3 sb3 hab3
      have cel00 := L.b0.c40
      have cel01 := L.b0.c41
      have cel02 := L.b0.c42
      have cel03 := L.b0.c43
      go_wp2_with fail
      refine (TN.out _ _ (isS_n (a := a) (b := b) (s := .slice A1 (zl a) c1) (t := .slice B1 (zl b) d1) (L.getN (by simp)) (L.getN (by simp)))).mono ?_
      rintro e w11 ⟨rfl, be⟩
      clear cel00 cel01 cel02 cel03
      replace L := L.step be
      clear be
      have cel00 := L.b0.c40
      have cel01 := L.b0.c41
      have cel02 := L.b0.c42
      have cel03 := L.b0.c43
      go_wp2_with fail
      refine (O1.out _ _ (isS_n (a := a) (b := b) (s := .slice A1 (zl a) c1) (t := .slice B1 (zl b) d1) (L.getN (by simp)) (L.getN (by simp)))).mono ?_
      rintro e w12 ⟨vv, rfl, iq, be⟩
      clear cel00 cel01 cel02 cel03
      obtain ⟨A3, c3, B3, d3, rfl, ia, ib⟩ := iq.form
      replace L := ((L.step be).n ib).n ia
      clear be iq ia ib
      have hVs : V.heap.size ≤ gt + 1 := by omega
      have cel00 := L.b0.c40
      have f00 := L.b0.fr 0
      have cel01 := L.b0.c41
      have f01 := L.b0.fr 1
      have cel02 := L.b0.c42
      have f02 := L.b0.fr 2
      have cel03 := L.b0.c43
      have f03 := L.b0.fr 3
      have P := L.putS (by omega) (by first | (simp; done) | (simp; omega)) (ng a3) A3 (zl a3) c3 (ng b3) B3 (zl b3) d3
      have p00 := P.b0.c40
      have p01 := P.b0.c41
      have p02 := P.b0.c42
      have p03 := P.b0.c43
      have p10 := P.tl.b0.c40
      have p11 := P.tl.b0.c41
      have p12 := P.tl.b0.c42
      have p13 := P.tl.b0.c43
      unfold put4 at p00 p01 p02 p03 p10 p11 p12 p13 P
      go_wp2_with fail
      replace L := P
      clear P p00 p01 p02 p03 p10 p11 p12 p13
      clear cel00 f00 cel01 f01 cel02 f02 cel03 f03
      refine (O5.out _ _ _ (isS_n (a := s) (b := u) (s := .slice A2 (zl s) c2) (t := .slice B2 (zl u) d2) (L.getN (by simp)) (L.getN (by simp))) (isS_n (a := a3) (b := b3) (s := .slice A3 (zl a3) c3) (t := .slice B3 (zl b3) d3) (L.getN (by simp)) (L.getN (by simp)))).mono ?_
      rintro e w13 ⟨vv, rfl, iq, be⟩
      obtain ⟨A6, c6, B6, d6, rfl, ia, ib⟩ := iq.form
      replace L := ((L.step be).n ib).n ia
      clear be iq ia ib
      have cel10 := L.tl.b0.c40
      have f10 := L.tl.b0.fr 0
      have cel11 := L.tl.b0.c41
      have f11 := L.tl.b0.fr 1
      have cel12 := L.tl.b0.c42
      have f12 := L.tl.b0.fr 2
      have cel13 := L.tl.b0.c43
      have f13 := L.tl.b0.fr 3
      replace L := L.swap.putS (by omega) (by first | (simp; done) | (simp; omega)) (ng s4) A6 (zl s4) c6 (ng u4) B6 (zl u4) d6
      unfold put4 at L
      go_wp2_with fail
      go_roundw
      case rel => exact ⟨g, k + 1, a3, b3, s4, u4, A3, B3, A6, B6, c3, d3, c6, d6, by go_num, L.sub (by simp) (by simp), HR⟩
      case measure => simp [intOf]; omega
    · rw [ht] at tn0
      have TN := Lib.hid tn0
      have hE := HR.out.2
      rw [exR_end ht] at hE
      obtain ⟨e1, e2⟩ := HXY.out
      rw [← hE] at e1 e2
      have o1 := fun x W h => s13wide_any s u 3 x W h (by omega) (by omega) (by omega) (by omega)
      rw [← e1, ← e2] at o1
      have O1 := Lib.hid o1
      clear o1 e1 e2 hE tn0 HXY HR sa sb ss su hab ht
      have cel00 := L.b0.c40
      have cel01 := L.b0.c41
      have cel02 := L.b0.c42
      have cel03 := L.b0.c43
      go_wp2_with fail
      refine (TN.out _ _ (isS_n (a := a) (b := b) (s := .slice A1 (zl a) c1) (t := .slice B1 (zl b) d1) (L.getN (by simp)) (L.getN (by simp)))).mono ?_
      rintro e w11 ⟨rfl, be⟩
      clear cel00 cel01 cel02 cel03
      replace L := L.step be
      clear be
      have hvs := L.tl.b0
      have ha2 := L.getN (v := .slice A2 (zl s) c2) (x := s.natAbs) (by simp)
      have hb2 := L.getN (v := .slice B2 (zl u) d2) (x := u.natAbs) (by simp)
      have L := (((LL.out.step L.below).n hb2).n ha2).b hvs
      clear hvs ha2 hb2 LL
      have cel00 := L.b0.c40
      have cel01 := L.b0.c41
      have cel02 := L.b0.c42
      have cel03 := L.b0.c43
      go_wp2_with fail
      refine (O1.out _ _ (isS_n (a := s) (b := u) (s := .slice A2 (zl s) c2) (t := .slice B2 (zl u) d2) (L.getN (by simp)) (L.getN (by simp)))).mono ?_
      rintro e w12 ⟨vv, rfl, iq, be⟩
      clear cel00 cel01 cel02 cel03
      obtain ⟨A9, c9, B9, d9, rfl, ia, ib⟩ := iq.form
      replace L := ((L.step be).n ib).n ia
      clear be iq ia ib
      replace L := L.swap
      have n1 : w.heap.size ≠ gt + 1 := by omega
      have cel00 := L.b0.c40
      have f00 := L.b0.fr 0
      have cel01 := L.b0.c41
      have f01 := L.b0.fr 1
      have cel02 := L.b0.c42
      have f02 := L.b0.fr 2
      have cel03 := L.b0.c43
      have f03 := L.b0.fr 3
      go_wp2_with fail
      have LP := L.putS (by omega) (by first | (simp; done) | (simp; omega)) (ng X) A9 (zl X) c9 (ng Y) B9 (zl Y) d9
      have k0 := LP.b0.c40
      have k1 := LP.b0.c41
      have k2 := LP.b0.c42
      have k3 := LP.b0.c43
      unfold put4 at k0 k1 k2 k3
      exact bodyPost_ret (v := .agg #[.bool (ng X), .slice A9 (zl X) c9, .bool (ng Y), .slice B9 (zl Y) d9]) (by simp [results, Tryz.results30, go_sem, k0, k1, k2, k3]) rfl ⟨_, rfl, isS_n (LP.getN (by simp)) (LP.getN (by simp)), LP.below⟩

end Go.Proofs.YtfnklkdbieikeaaGreatDoor
