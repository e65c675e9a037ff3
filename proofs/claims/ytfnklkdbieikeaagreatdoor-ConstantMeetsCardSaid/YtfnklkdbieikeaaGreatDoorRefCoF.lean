/- The reference's series: AtanInverse, ESpan, Ln2Span. -/
import Derived.Test.YtfnklkdbieikeaaGreatDoorRefCoE
import Derived.Test.YtfnklkdbieikeaaGreatDoorRefCoB
import Derived.Deep.RegionHeld3
import Derived.Deep.DrawnRows
import Derived.Deep.Cut
import Derived.Deep.CutRange
namespace Go.Proofs.YtfnklkdbieikeaaGreatDoor
open Go.RowKit
set_option linter.unusedVariables false
set_option linter.unusedSimpArgs false
set_option maxRecDepth 100000
attribute [local go_sem ↓] Go.wp_at_zero Go.wp_at_succ

theorem Lq.sub {w0 w : World} {ns : List (Value × Nat)} {zs : List (Value × Int)} {qs : List (Value × Int × Nat)} {bs : List (Nat × TypeId × Array Value)} (h : Lq w0 w ns zs qs bs) {ns' : List (Value × Nat)} {bs' : List (Nat × TypeId × Array Value)} (h1 : ∀ p ∈ ns', p ∈ ns) (h2 : ∀ b ∈ bs', b ∈ bs) : Lq w0 w ns' [] [] bs' :=
  ⟨h.below, fun x hx => h.ns x (h1 x hx), fun _ x => (by cases x), fun _ x => (by cases x), fun x hx => h.bs x (h2 x hx)⟩

set_option maxHeartbeats 16000000 in
theorem s13atan_any (n : Int) (v : Nat) (w : World) (hn : 2 ≤ n) (hn2 : n ≤ 1000) (hv : v ≤ 10000) :
    Calls Tryz.prog 69 #[.int .i64 n, .int .i64 (v : Int)] w (RetSp w (atL n v) (atH n v)) := by
  have HN := Lib.hid hn
  have HV := Lib.hid hv
  have g1 := fun W => s13of_any 1 v W (by omega) (by omega) (by omega)
  have g0 := fun W => s13of_any 0 v W (by omega) (by omega) (by omega)
  rw [Int.one_mul] at g1
  rw [Int.zero_mul] at g0
  have t0 := tm_one v
  have q0 := at_first hn v
  have z0 := t0.abs.1.zl
  have g2 := fun x W h => s13over_any (2 ^ v) (2 ^ v) n x W h (by omega) (by omega) (Int.le_refl _) (by omega) (by omega)
  have HXY := Lib.hid (show atL n v = (atR n v 0 (2 ^ v / n) (cdv (2 ^ v) n) 0 0).1 - 2 ∧ atH n v = (atR n v 0 (2 ^ v / n) (cdv (2 ^ v) n) 0 0).2 + 2 from ⟨rfl, rfl⟩)
  generalize atL n v = X at *
  generalize atH n v = Y at *
  generalize (2 : Int) ^ v = P at *
  obtain ⟨a, ha⟩ : ∃ z, P / n = z := ⟨_, rfl⟩
  obtain ⟨b, hb⟩ : ∃ z, cdv P n = z := ⟨_, rfl⟩
  rw [ha, hb] at g2 q0 HXY
  obtain ⟨R, hR⟩ : ∃ z, atR n v 0 a b 0 0 = z := ⟨_, rfl⟩
  rw [hR] at HXY
  have HR := Lib.hid (And.intro q0 hR)
  have G0 := Lib.hid g0
  have G1 := Lib.hid g1
  have G2 := Lib.hid g2
  clear g0 g1 g2 hR q0 t0 z0 ha hb
  go_enter Tryz.func69, Tryz.ntmps69
  have L := ((Lq.mk0 w).varS (w.heap.size) (by simp) false none 0 0 false none 0 0)
  (try go_wp2_with fail)
  obtain ⟨V, hV⟩ : ∃ V, w.alloc (.cells #[.bool false, .slice none 0 0, .bool false, .slice none 0 0] 57) = V := ⟨_, rfl⟩
  rw [hV] at L ⊢
  clear hV
  have hwV := L.b0.lt
  have LL := Lib.hid L
  clear L
  have L := Lq.mk0 V
  refine (G1.out _).mono ?_
  rintro e w1 ⟨vv, rfl, iq, be⟩
  obtain ⟨A5, c5, B5, d5, rfl, ia, ib⟩ := iq.form
  replace L := ((L.step be).n ib).n ia
  clear be iq ia ib
  go_wp2_with fail
  refine (G2.out _ _ (isS_n (a := P) (b := P) (s := .slice A5 (zl P) c5) (t := .slice B5 (zl P) d5) (L.getN (by simp)) (L.getN (by simp)))).mono ?_
  rintro e w2 ⟨vv, rfl, iq, be⟩
  obtain ⟨A1, c1, B1, d1, rfl, ia, ib⟩ := iq.form
  replace L := ((L.step be).n ib).n ia
  clear be iq ia ib
  have hVt : V.heap.size ≤ w2.heap.size := L.below.size
  replace L := L.varS w2.heap.size rfl (ng a) A1 (zl a) c1 (ng b) B1 (zl b) d1
  have c00 := L.b0.c40
  have c01 := L.b0.c41
  have c02 := L.b0.c42
  have c03 := L.b0.c43
  go_wp2_with fail
  clear c00 c01 c02 c03
  obtain ⟨gt, hgt⟩ : ∃ g9, w2.heap.size = g9 := ⟨_, rfl⟩
  rw [hgt] at L hVt ⊢
  clear hgt
  have hlt0 := L.b0.lt
  refine (G0.out _).mono ?_
  rintro e w3 ⟨vv, rfl, iq, be⟩
  obtain ⟨A2, c2, B2, d2, rfl, ia, ib⟩ := iq.form
  replace L := ((L.step be).n ib).n ia
  clear be iq ia ib
  have hlt1 := L.b0.lt
  replace L := L.varS w3.heap.size rfl (ng 0) A2 (zl 0) c2 (ng 0) B2 (zl 0) d2
  have c00 := L.b0.c40
  have c01 := L.b0.c41
  have c02 := L.b0.c42
  have c03 := L.b0.c43
  have c10 := L.tl.b0.c40
  have c11 := L.tl.b0.c41
  have c12 := L.tl.b0.c42
  have c13 := L.tl.b0.c43
  go_wp2_with fail
  clear c00 c01 c02 c03 c10 c11 c12 c13
  obtain ⟨gs, hgs⟩ : ∃ g9, w3.heap.size = g9 := ⟨_, rfl⟩
  rw [hgs] at L hlt1 ⊢
  clear hgs
  replace L := L.swap
  clear hlt0 G0 G1 G2
  go_loopw [7] (fun i wr => ∃ (f k : Nat) (a b s u : Int) (A1 B1 A2 B2 : Option Addr) (c1 d1 c2 d2 : Nat), i = .int .i64 (k : Int) ∧ Lq V wr [(.slice A1 (zl a) c1, a.natAbs), (.slice B1 (zl b) d1, b.natAbs), (.slice A2 (zl s) c2, s.natAbs), (.slice B2 (zl u) d2, u.natAbs)] [] [] [(gt, 57, #[.bool (ng a), .slice A1 (zl a) c1, .bool (ng b), .slice B1 (zl b) d1]), (gs, 57, #[.bool (ng s), .slice A2 (zl s) c2, .bool (ng u), .slice B2 (zl u) d2])] ∧ Hid (SeI v f k a b s u ∧ atR n f k a b s u = R)) (fun i _ => v + 4 - (intOf i).toNat)
  case atStart => exact ⟨v, 0, a, b, 0, 0, A1, B1, A2, B2, c1, d1, c2, d2, by go_num, L.sub (by simp) (by simp), HR⟩
  case round =>
    clear L HR
    obtain ⟨f, k, a, b, s, u, A1, B1, A2, B2, c1, d1, c2, d2, rfl, L, HR⟩ := hrel
    obtain ⟨sa, sb, ss, su, hab, hk⟩ := HR.out.1.sizes HV.out
    have hfk := HR.out.1.2.1
    have tn0 := fun x W h => s13tiny_any a b x W h (by omega) (by omega)
    have hv := HV.out
    have hn0 := HN.out
    have hl1 := L.b0.lt
    have hl2 := L.tl.b0.lt
    cases ht : tnB a b
    · rw [ht] at tn0
      have TN := Lib.hid tn0
      obtain ⟨g, rfl, t1, t2, h1, h2⟩ := at_step HN.out HR.out.1 ht
      have x1 := t1.abs.1.zl
      have x2 := t1.abs.2.zl
      have x3 := t2.abs.1.zl
      have x4 := t2.abs.2.zl
      have x5 := t1.2.1
      have x6 := t2.2.1
      have o1 := fun x W h => s13over_any a b (2 * (k : Int) + 1) x W h (by omega) (by omega) hab (by omega) (by omega)
      have o2 := fun x W h => s13over_any a b n x W h (by omega) (by omega) hab (by omega) (by omega)
      have o3 := fun x W h => s13over_any (a / n) (cdv b n) n x W h (by omega) (by omega) x5 (by omega) (by omega)
      have o4 := fun x W h => s13neg_any (a / (2 * (k : Int) + 1)) (cdv b (2 * (k : Int) + 1)) x W h (by omega) (by omega)
      have y3 := zl_neg (a / (2 * (k : Int) + 1))
      have y4 := zl_neg (cdv b (2 * (k : Int) + 1))
      have o5 := fun x y W h j => s13add_any s u (a / (2 * (k : Int) + 1)) (cdv b (2 * (k : Int) + 1)) x y W h j (by omega) (by omega) (by omega) (by omega)
      have o6 := fun x y W h j => s13add_any s u (-(cdv b (2 * (k : Int) + 1))) (-(a / (2 * (k : Int) + 1))) x y W h j (by omega) (by omega) (by omega) (by omega)
      have hkv : k ≤ v + 2 := by omega
      have hE := HR.out.2
      obtain ⟨q, hq⟩ : ∃ q : Int, 2 * (k : Int) + 1 = q := ⟨_, rfl⟩
      have w1 : IntKind.i64.wrap (2 * (k : Int)) = 2 * (k : Int) := by rw [IntKind.wrap_i64]; omega
      have w2 : IntKind.i64.wrap (2 * (k : Int) + 1) = q := by rw [IntKind.wrap_i64]; omega
      have w3 : IntKind.i64.wrap ((k : Int) + 1) = (k : Int) + 1 := by rw [IntKind.wrap_i64]; omega
      rw [hq] at o1 o4 o5 o6 h1 h2
      obtain ⟨p, hp⟩ : ∃ z, a / q = z := ⟨_, rfl⟩
      rw [hp] at o1 o4 o5 o6 h1 h2
      obtain ⟨r, hr⟩ : ∃ z, cdv b q = z := ⟨_, rfl⟩
      rw [hr] at o1 o4 o5 o6 h1 h2
      obtain ⟨a3, ha3⟩ : ∃ z, a / n = z := ⟨_, rfl⟩
      rw [ha3] at o2 o3 h1 h2
      obtain ⟨b3, hb3⟩ : ∃ z, cdv b n = z := ⟨_, rfl⟩
      rw [hb3] at o2 o3 h1 h2
      obtain ⟨a4, ha4⟩ : ∃ z, a3 / n = z := ⟨_, rfl⟩
      rw [ha4] at o3 h1 h2
      obtain ⟨b4, hb4⟩ : ∃ z, cdv b3 n = z := ⟨_, rfl⟩
      rw [hb4] at o3 h1 h2
      have O1 := Lib.hid o1
      have O2 := Lib.hid o2
      have O3 := Lib.hid o3
      clear o1 o2 o3 tn0 hq hp hr ha3 hb3 ha4 hb4 t1 t2 x1 x2 x3 x4 x5 x6 y3 y4 sa sb ss su hab hn0 HR
      by_cases hk2 : k % 2 = 1
      · obtain ⟨n1, n2⟩ := h1 hk2
        rw [n2] at hE
        have m1 : ((k : Int).tmod 2 == 1) = true := by rw [beq_iff_eq, Int.tmod_eq_emod_of_nonneg (by omega)]; omega
        have m2 : ((k : Int) % 2 == 1) = true := by rw [beq_iff_eq]; omega
        have O4 := Lib.hid o4
        obtain ⟨p2, hp2⟩ : ∃ z, -r = z := ⟨_, rfl⟩
        obtain ⟨r2, hr2⟩ : ∃ z, -p = z := ⟨_, rfl⟩
        rw [hp2, hr2] at O4 o6 n1 hE
        obtain ⟨s4, hs4⟩ : ∃ z, s + p2 = z := ⟨_, rfl⟩
        obtain ⟨u4, hu4⟩ : ∃ z, u + r2 = z := ⟨_, rfl⟩
        rw [hs4, hu4] at o6 n1 hE
        have O5 := Lib.hid o6
        have HR := Lib.hid (And.intro n1 hE)
        clear o4 o5 o6 h1 h2 n1 n2 hE hk2 hp2 hr2 hs4 hu4 ht hfk
        have cel00 := L.b0.c40
        have cel01 := L.b0.c41
        have cel02 := L.b0.c42
        have cel03 := L.b0.c43
        go_wp2_with fail
        refine (TN.out _ _ (isS_n (a := a) (b := b) (s := .slice A1 (zl a) c1) (t := .slice B1 (zl b) d1) (L.getN (by simp)) (L.getN (by simp)))).mono ?_
        rintro e w11 ⟨rfl, be⟩
        clear cel00 cel01 cel02 cel03
        replace L := L.step be
        clear be
        have cel00 := L.b0.c40
        have cel01 := L.b0.c41
        have cel02 := L.b0.c42
        have cel03 := L.b0.c43
        go_wp2_with fail
        refine (O1.out _ _ (isS_n (a := a) (b := b) (s := .slice A1 (zl a) c1) (t := .slice B1 (zl b) d1) (L.getN (by simp)) (L.getN (by simp)))).mono ?_
        rintro e w12 ⟨vv, rfl, iq, be⟩
        clear cel00 cel01 cel02 cel03
        obtain ⟨A3, c3, B3, d3, rfl, ia, ib⟩ := iq.form
        replace L := ((L.step be).n ib).n ia
        clear be iq ia ib
        have hl3 := L.b0.lt
        have hl4 := L.tl.b0.lt
        replace L := L.varS w12.heap.size rfl (ng p) A3 (zl p) c3 (ng r) B3 (zl r) d3
        have cel00 := L.b0.c40
        have cel01 := L.b0.c41
        have cel02 := L.b0.c42
        have cel03 := L.b0.c43
        go_wp2_with fail
        clear cel00 cel01 cel02 cel03
        obtain ⟨gx, hgx⟩ : ∃ g9, w12.heap.size = g9 := ⟨_, rfl⟩
        rw [hgx] at L hl3 hl4 ⊢
        clear hgx
        have hVx : V.heap.size ≤ gx := by omega
        have hVs : V.heap.size ≤ gs := by omega
        refine (O4.out _ _ (isS_n (a := p) (b := r) (s := .slice A3 (zl p) c3) (t := .slice B3 (zl r) d3) (L.getN (by simp)) (L.getN (by simp)))).mono ?_
        rintro e w13 ⟨vv, rfl, iq, be⟩
        obtain ⟨A4, c4, B4, d4, rfl, ia, ib⟩ := iq.form
        replace L := ((L.step be).n ib).n ia
        clear be iq ia ib
        have cel00 := L.b0.c40
        have f00 := L.b0.fr 0
        have cel01 := L.b0.c41
        have f01 := L.b0.fr 1
        have cel02 := L.b0.c42
        have f02 := L.b0.fr 2
        have cel03 := L.b0.c43
        have f03 := L.b0.fr 3
        have P := L.putS (by omega) (by first | (simp; done) | (simp; omega)) (ng p2) A4 (zl p2) c4 (ng r2) B4 (zl r2) d4
        have p00 := P.b0.c40
        have p01 := P.b0.c41
        have p02 := P.b0.c42
        have p03 := P.b0.c43
        have p20 := P.tl.tl.b0.c40
        have p21 := P.tl.tl.b0.c41
        have p22 := P.tl.tl.b0.c42
        have p23 := P.tl.tl.b0.c43
        unfold put4 at p00 p01 p02 p03 p20 p21 p22 p23 P
        go_wp2_with fail
        replace L := P
        clear P p00 p01 p02 p03 p20 p21 p22 p23
        clear cel00 f00 cel01 f01 cel02 f02 cel03 f03
        refine (O5.out _ _ _ (isS_n (a := s) (b := u) (s := .slice A2 (zl s) c2) (t := .slice B2 (zl u) d2) (L.getN (by simp)) (L.getN (by simp))) (isS_n (a := p2) (b := r2) (s := .slice A4 (zl p2) c4) (t := .slice B4 (zl r2) d4) (L.getN (by simp)) (L.getN (by simp)))).mono ?_
        rintro e w14 ⟨vv, rfl, iq, be⟩
        obtain ⟨A6, c6, B6, d6, rfl, ia, ib⟩ := iq.form
        replace L := ((L.step be).n ib).n ia
        clear be iq ia ib
        have cel20 := L.tl.tl.b0.c40
        have f20 := L.tl.tl.b0.fr 0
        have cel21 := L.tl.tl.b0.c41
        have f21 := L.tl.tl.b0.fr 1
        have cel22 := L.tl.tl.b0.c42
        have f22 := L.tl.tl.b0.fr 2
        have cel23 := L.tl.tl.b0.c43
        have f23 := L.tl.tl.b0.fr 3
        have P := L.pull2.putS (by omega) (by first | (simp; done) | (simp; omega)) (ng s4) A6 (zl s4) c6 (ng u4) B6 (zl u4) d6
        have p20 := P.tl.tl.b0.c40
        have p21 := P.tl.tl.b0.c41
        have p22 := P.tl.tl.b0.c42
        have p23 := P.tl.tl.b0.c43
        unfold put4 at p20 p21 p22 p23 P
        go_wp2_with fail
        replace L := P
        clear P p20 p21 p22 p23
        clear cel20 f20 cel21 f21 cel22 f22 cel23 f23
        refine (O2.out _ _ (isS_n (a := a) (b := b) (s := .slice A1 (zl a) c1) (t := .slice B1 (zl b) d1) (L.getN (by simp)) (L.getN (by simp)))).mono ?_
        rintro e w15 ⟨vv, rfl, iq, be⟩
        obtain ⟨A7, c7, B7, d7, rfl, ia, ib⟩ := iq.form
        replace L := ((L.step be).n ib).n ia
        clear be iq ia ib
        go_wp2_with fail
        refine (O3.out _ _ (isS_n (a := a3) (b := b3) (s := .slice A7 (zl a3) c7) (t := .slice B7 (zl b3) d7) (L.getN (by simp)) (L.getN (by simp)))).mono ?_
        rintro e w16 ⟨vv, rfl, iq, be⟩
        obtain ⟨A8, c8, B8, d8, rfl, ia, ib⟩ := iq.form
        replace L := ((L.step be).n ib).n ia
        clear be iq ia ib
        have cel20 := L.tl.tl.b0.c40
        have f20 := L.tl.tl.b0.fr 0
        have cel21 := L.tl.tl.b0.c41
        have f21 := L.tl.tl.b0.fr 1
        have cel22 := L.tl.tl.b0.c42
        have f22 := L.tl.tl.b0.fr 2
        have cel23 := L.tl.tl.b0.c43
        have f23 := L.tl.tl.b0.fr 3
        replace L := L.pull2.putS (by omega) (by first | (simp; done) | (simp; omega)) (ng a4) A8 (zl a4) c8 (ng b4) B8 (zl b4) d8
        unfold put4 at L
        go_wp2_with fail
        go_roundw
        case rel => exact ⟨g, k + 1, a4, b4, s4, u4, A8, B8, A6, B6, c8, d8, c6, d6, by go_num, L.sub (by simp) (by simp), HR⟩
        case measure => simp [intOf]; omega
      · obtain ⟨n1, n2⟩ := h2 hk2
        rw [n2] at hE
        have m1 : ((k : Int).tmod 2 == 1) = false := by rw [beq_eq_false_iff_ne, Int.tmod_eq_emod_of_nonneg (by omega)]; omega
        have m2 : ((k : Int) % 2 == 1) = false := by rw [beq_eq_false_iff_ne]; omega
        obtain ⟨s4, hs4⟩ : ∃ z, s + p = z := ⟨_, rfl⟩
        obtain ⟨u4, hu4⟩ : ∃ z, u + r = z := ⟨_, rfl⟩
        rw [hs4, hu4] at o5 n1 hE
        have O5 := Lib.hid o5
        have HR := Lib.hid (And.intro n1 hE)
        clear o4 o5 o6 h1 h2 n1 n2 hE hk2 hs4 hu4 ht hfk
        have cel00 := L.b0.c40
        have cel01 := L.b0.c41
        have cel02 := L.b0.c42
        have cel03 := L.b0.c43
        go_wp2_with fail
        refine (TN.out _ _ (isS_n (a := a) (b := b) (s := .slice A1 (zl a) c1) (t := .slice B1 (zl b) d1) (L.getN (by simp)) (L.getN (by simp)))).mono ?_
        rintro e w11 ⟨rfl, be⟩
        clear cel00 cel01 cel02 cel03
        replace L := L.step be
        clear be
        have cel00 := L.b0.c40
        have cel01 := L.b0.c41
        have cel02 := L.b0.c42
        have cel03 := L.b0.c43
        go_wp2_with fail
        refine (O1.out _ _ (isS_n (a := a) (b := b) (s := .slice A1 (zl a) c1) (t := .slice B1 (zl b) d1) (L.getN (by simp)) (L.getN (by simp)))).mono ?_
        rintro e w12 ⟨vv, rfl, iq, be⟩
        clear cel00 cel01 cel02 cel03
        obtain ⟨A3, c3, B3, d3, rfl, ia, ib⟩ := iq.form
        replace L := ((L.step be).n ib).n ia
        clear be iq ia ib
        have hl3 := L.b0.lt
        have hl4 := L.tl.b0.lt
        replace L := L.varS w12.heap.size rfl (ng p) A3 (zl p) c3 (ng r) B3 (zl r) d3
        have cel00 := L.b0.c40
        have cel01 := L.b0.c41
        have cel02 := L.b0.c42
        have cel03 := L.b0.c43
        have cel20 := L.tl.tl.b0.c40
        have cel21 := L.tl.tl.b0.c41
        have cel22 := L.tl.tl.b0.c42
        have cel23 := L.tl.tl.b0.c43
        go_wp2_with fail
        clear cel00 cel01 cel02 cel03 cel20 cel21 cel22 cel23
        obtain ⟨gx, hgx⟩ : ∃ g9, w12.heap.size = g9 := ⟨_, rfl⟩
        rw [hgx] at L hl3 hl4 ⊢
        clear hgx
        have hVx : V.heap.size ≤ gx := by omega
        have hVs : V.heap.size ≤ gs := by omega
        refine (O5.out _ _ _ (isS_n (a := s) (b := u) (s := .slice A2 (zl s) c2) (t := .slice B2 (zl u) d2) (L.getN (by simp)) (L.getN (by simp))) (isS_n (a := p) (b := r) (s := .slice A3 (zl p) c3) (t := .slice B3 (zl r) d3) (L.getN (by simp)) (L.getN (by simp)))).mono ?_
        rintro e w13 ⟨vv, rfl, iq, be⟩
        obtain ⟨A6, c6, B6, d6, rfl, ia, ib⟩ := iq.form
        replace L := ((L.step be).n ib).n ia
        clear be iq ia ib
        have cel20 := L.tl.tl.b0.c40
        have f20 := L.tl.tl.b0.fr 0
        have cel21 := L.tl.tl.b0.c41
        have f21 := L.tl.tl.b0.fr 1
        have cel22 := L.tl.tl.b0.c42
        have f22 := L.tl.tl.b0.fr 2
        have cel23 := L.tl.tl.b0.c43
        have f23 := L.tl.tl.b0.fr 3
        have P := L.pull2.putS (by omega) (by first | (simp; done) | (simp; omega)) (ng s4) A6 (zl s4) c6 (ng u4) B6 (zl u4) d6
        have p20 := P.tl.tl.b0.c40
        have p21 := P.tl.tl.b0.c41
        have p22 := P.tl.tl.b0.c42
        have p23 := P.tl.tl.b0.c43
        unfold put4 at p20 p21 p22 p23 P
        go_wp2_with fail
        replace L := P
        clear P p20 p21 p22 p23
        clear cel20 f20 cel21 f21 cel22 f22 cel23 f23
        refine (O2.out _ _ (isS_n (a := a) (b := b) (s := .slice A1 (zl a) c1) (t := .slice B1 (zl b) d1) (L.getN (by simp)) (L.getN (by simp)))).mono ?_
        rintro e w14 ⟨vv, rfl, iq, be⟩
        obtain ⟨A7, c7, B7, d7, rfl, ia, ib⟩ := iq.form
        replace L := ((L.step be).n ib).n ia
        clear be iq ia ib
        go_wp2_with fail
        refine (O3.out _ _ (isS_n (a := a3) (b := b3) (s := .slice A7 (zl a3) c7) (t := .slice B7 (zl b3) d7) (L.getN (by simp)) (L.getN (by simp)))).mono ?_
        rintro e w15 ⟨vv, rfl, iq, be⟩
        obtain ⟨A8, c8, B8, d8, rfl, ia, ib⟩ := iq.form
        replace L := ((L.step be).n ib).n ia
        clear be iq ia ib
        have cel20 := L.tl.tl.b0.c40
        have f20 := L.tl.tl.b0.fr 0
        have cel21 := L.tl.tl.b0.c41
        have f21 := L.tl.tl.b0.fr 1
        have cel22 := L.tl.tl.b0.c42
        have f22 := L.tl.tl.b0.fr 2
        have cel23 := L.tl.tl.b0.c43
        have f23 := L.tl.tl.b0.fr 3
        replace L := L.pull2.putS (by omega) (by first | (simp; done) | (simp; omega)) (ng a4) A8 (zl a4) c8 (ng b4) B8 (zl b4) d8
        unfold put4 at L
        go_wp2_with fail
        go_roundw
        case rel => exact ⟨g, k + 1, a4, b4, s4, u4, A8, B8, A6, B6, c8, d8, c6, d6, by go_num, L.sub (by simp) (by simp), HR⟩
        case measure => simp [intOf]; omega
    · rw [ht] at tn0
      have TN := Lib.hid tn0
      have hE := HR.out.2
      rw [atR_end ht] at hE
      obtain ⟨e1, e2⟩ := HXY.out
      rw [← hE] at e1 e2
      have o1 := fun x W h => s13wide_any s u 2 x W h (by omega) (by omega) (by omega) (by omega)
      rw [← e1, ← e2] at o1
      have O1 := Lib.hid o1
      clear o1 e1 e2 hE tn0 HXY HR sa sb ss su hab ht
      have cel00 := L.b0.c40
      have cel01 := L.b0.c41
      have cel02 := L.b0.c42
      have cel03 := L.b0.c43
      go_wp2_with fail
      refine (TN.out _ _ (isS_n (a := a) (b := b) (s := .slice A1 (zl a) c1) (t := .slice B1 (zl b) d1) (L.getN (by simp)) (L.getN (by simp)))).mono ?_
      rintro e w11 ⟨rfl, be⟩
      clear cel00 cel01 cel02 cel03
      replace L := L.step be
      clear be
      have hvs := L.tl.b0
      have ha2 := L.getN (v := .slice A2 (zl s) c2) (x := s.natAbs) (by simp)
      have hb2 := L.getN (v := .slice B2 (zl u) d2) (x := u.natAbs) (by simp)
      have L := (((LL.out.step L.below).n hb2).n ha2).b hvs
      clear hvs ha2 hb2 LL
      have cel00 := L.b0.c40
      have cel01 := L.b0.c41
      have cel02 := L.b0.c42
      have cel03 := L.b0.c43
      go_wp2_with fail
      refine (O1.out _ _ (isS_n (a := s) (b := u) (s := .slice A2 (zl s) c2) (t := .slice B2 (zl u) d2) (L.getN (by simp)) (L.getN (by simp)))).mono ?_
      rintro e w12 ⟨vv, rfl, iq, be⟩
      clear cel00 cel01 cel02 cel03
      obtain ⟨A9, c9, B9, d9, rfl, ia, ib⟩ := iq.form
      replace L := ((L.step be).n ib).n ia
      clear be iq ia ib
      replace L := L.swap
      have n1 : w.heap.size ≠ gs := by omega
      have cel00 := L.b0.c40
      have f00 := L.b0.fr 0
      have cel01 := L.b0.c41
      have f01 := L.b0.fr 1
      have cel02 := L.b0.c42
      have f02 := L.b0.fr 2
      have cel03 := L.b0.c43
      have f03 := L.b0.fr 3
      go_wp2_with fail
      have LP := L.putS (by omega) (by first | (simp; done) | (simp; omega)) (ng X) A9 (zl X) c9 (ng Y) B9 (zl Y) d9
      have k0 := LP.b0.c40
      have k1 := LP.b0.c41
      have k2 := LP.b0.c42
      have k3 := LP.b0.c43
      unfold put4 at k0 k1 k2 k3
      exact bodyPost_ret (v := .agg #[.bool (ng X), .slice A9 (zl X) c9, .bool (ng Y), .slice B9 (zl Y) d9]) (by simp [results, Tryz.results69, go_sem, k0, k1, k2, k3]) rfl ⟨_, rfl, isS_n (LP.getN (by simp)) (LP.getN (by simp)), LP.below⟩

end Go.Proofs.YtfnklkdbieikeaaGreatDoor
