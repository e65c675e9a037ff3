/- The walk of ExponentialClose: whatever the input, the law returns true and turns nothing that was there. -/
import Derived.Test.YtnnfldkllhdhjaaGreatDoorJC3
import Derived.Deep.RegionHeld3
import Derived.Deep.DrawnRows
import Derived.Deep.Cut
import Derived.Deep.CutRange
namespace Go.Proofs.YtnnfldkllhdhjaaGreatDoor
open Go.RowKit
set_option linter.unusedVariables false
set_option linter.unusedSimpArgs false
set_option maxRecDepth 100000
attribute [local go_sem ↓] Go.wp_at_zero Go.wp_at_succ

theorem plainI2 (N0 N1 : Int) : Plain #[.int .i64 N0, .int .i64 N1] := fun j x => by
  match j with
  | 0 => simp
  | 1 => simp
  | j + 2 => simp

set_option maxHeartbeats 64000000 in
theorem walk_ExponentialClose (b0 : Bool) (a0 : Option Addr) (len0 cap0 : Nat) (z0 : List Nat) (f0 : Int) (bb0 : Bool) (aa0 : Option Addr) (ll0 cc0 : Nat) (zz0 : List Nat) (ff0 : Int) (a1 : Int) (a2 : Bool) (w : World) (h0 : Sl w a0 len0 cap0 z0 ∧ -9223372036854775808 ≤ f0 ∧ f0 ≤ 9223372036854775807) (k0 : Sl w aa0 ll0 cc0 zz0 ∧ -9223372036854775808 ≤ ff0 ∧ ff0 ≤ 9223372036854775807) (h1 : -9223372036854775808 ≤ a1 ∧ a1 ≤ 9223372036854775807)  (hT : Tab w) :
    Calls Tryz.prog 3 #[.agg #[.bool b0, .slice a0 len0 cap0, .int .i64 f0, .bool bb0, .slice aa0 ll0 cc0, .int .i64 ff0], .int .i64 a1, .bool a2] w (fun e w' => e = .returned (.bool true) ∧ Below w.heap.size w w') := by
  have HT := Lib.hid (fun W (hW : Below w.heap.size w W) => hT.mono hW)
  clear hT
  go_enter Tryz.func3, Tryz.ntmps3
  go_wp2_with fail
  have L := ((Lq.mk0 w).varI (w.heap.size) (by simp) b0 a0 len0 cap0 f0 bb0 aa0 ll0 cc0 ff0)
  (try go_wp2_with fail)
  refine (awake14_any _ (HT.out _ L.below)).mono ?_
  rintro e9 w1 ⟨rfl, be⟩
  replace L := L.step be
  clear be
  have c00 := L.b0.c60
  have c01 := L.b0.c61
  have c02 := L.b0.c62
  have c03 := L.b0.c63
  have c04 := L.b0.c64
  have c05 := L.b0.c65
  (try go_wp2_with fail)
  refine (s14arg_any b0 bb0 z0 zz0 a0 aa0 len0 cap0 ll0 cc0 f0 ff0 5 _ (h0.1.mono L.below) (k0.1.mono L.below) h0.2.1 h0.2.2 k0.2.1 k0.2.2 (by omega)).mono ?_
  rintro e9 w2 ⟨vx, ok, m, e, n, f, rfl, ii, be, hok⟩
  clear c00 c01 c02 c03 c04 c05
  obtain ⟨A, c, B, d, rfl, ia, ib⟩ := ii.form
  replace L := ((L.step be).n ib).n ia
  clear be ii ia ib
  have hlt0 := L.b0.lt
  replace L := L.varI w2.heap.size rfl (ng m) A (zl m) c e (ng n) B (zl n) d f
  cases ok
  · go_wp2_with fail
    go_ret
    exact ⟨rfl, L.below⟩
  obtain ⟨j, hj, hr, t1, t2⟩ := hok rfl
  obtain ⟨⟨q1, q2, q3, q4, q5⟩, hth⟩ := ArgX.thin hr hj t1 t2
  have hno := ArgX.of hr hj t1 t2
  have gt := fun x W h => thin14_any m e n f 30 (by omega) x W h q1 q2 q3 q4 q5 hr.vn
  obtain ⟨n2, hn2⟩ : ∃ z, thN m e n f 30 = z := ⟨_, rfl⟩
  obtain ⟨f2, hf2⟩ : ∃ z, thF m e n f 30 = z := ⟨_, rfl⟩
  rw [hn2, hf2] at gt hth
  have GT := Lib.hid gt
  have HTH := Lib.hid hth
  have HNO := Lib.hid hno
  clear gt hth hno hok q1 q2 q3 q4 q5 hr t1 t2 hj hn2 hf2
  have c00 := L.b0.c60
  have f00 := L.b0.fr 0
  have c01 := L.b0.c61
  have f01 := L.b0.fr 1
  have c02 := L.b0.c62
  have f02 := L.b0.fr 2
  have c03 := L.b0.c63
  have f03 := L.b0.fr 3
  have c04 := L.b0.c64
  have f04 := L.b0.fr 4
  have c05 := L.b0.c65
  have f05 := L.b0.fr 5
  go_upto_if 22 with fail
  clear c00 f00 c01 f01 c02 f02 c03 f03 c04 f04 c05 f05
  obtain ⟨gx, hgx⟩ : ∃ g9, w2.heap.size = g9 := ⟨_, rfl⟩
  rw [hgx] at L hlt0 ⊢
  clear hgx
  have L8 := L.pick [(gx, 28, #[.bool (ng m), .slice A (zl m) c, .int .i64 e, .bool (ng n), .slice B (zl n) d, .int .i64 f])] (by simp)
  clear L
  have L := L8
  clear L8
  go_cut [22] from 23 to 24 (fun s22 wx => ∃ (A : Option Addr) (c : Nat) (n' f' : Int) (B' : Option Addr) (d' : Nat), Lq w wx [(.slice A (zl m) c, m.natAbs), (.slice B' (zl n') d', n'.natAbs)] [] [] [(gx, 28, #[.bool (ng m), .slice A (zl m) c, .int .i64 e, .bool (ng n'), .slice B' (zl n') d', .int .i64 f'])] ∧ Hid (ArgX 5 m e n' f'))
  case first =>
    cases a2
    · go_wp2_with fail
      go_meet
      exact ⟨A, c, n, f, B, d, L.subx (by simp) (by simp), HNO⟩
    · skip
      have c00 := L.b0.c60
      have f00 := L.b0.fr 0
      have c01 := L.b0.c61
      have f01 := L.b0.fr 1
      have c02 := L.b0.c62
      have f02 := L.b0.fr 2
      have c03 := L.b0.c63
      have f03 := L.b0.fr 3
      have c04 := L.b0.c64
      have f04 := L.b0.fr 4
      have c05 := L.b0.c65
      have f05 := L.b0.fr 5
      go_wp2_with fail
      refine (GT.out _ _ (isI_n (m := m) (e := e) (n := n) (f := f) (s := .slice A (zl m) c) (t := .slice B (zl n) d) (L.getN (by simp)) (L.getN (by simp)))).mono ?_
      rintro e w21 ⟨vv, rfl, ii, be⟩
      clear c00 f00 c01 f01 c02 f02 c03 f03 c04 f04 c05 f05
      obtain ⟨A5, c5, B5, d5, rfl, ia, ib⟩ := ii.form
      replace L := ((L.step be).n ib).n ia
      clear be ii ia ib
      have c00 := L.b0.c60
      have f00 := L.b0.fr 0
      have c01 := L.b0.c61
      have f01 := L.b0.fr 1
      have c02 := L.b0.c62
      have f02 := L.b0.fr 2
      have c03 := L.b0.c63
      have f03 := L.b0.fr 3
      have c04 := L.b0.c64
      have f04 := L.b0.fr 4
      have c05 := L.b0.c65
      have f05 := L.b0.fr 5
      have P := L.putI (by omega) (by simp) (ng m) A5 (zl m) c5 e (ng n2) B5 (zl n2) d5 f2
      unfold put6 at P
      go_wp2_with fail
      go_meet
      exact ⟨A5, c5, n2, f2, B5, d5, P.subx (by simp) (by simp), HTH⟩
  case rest =>
    clear L GT HNO HTH
    obtain ⟨A, c, n, f, B, d, L, HX⟩ := hcut
    generalize wc = wd at *
    obtain ⟨r1, hr1⟩ : ∃ r : Nat, a1 % 120 = (r : Int) := ⟨(a1 % 120).toNat, by omega⟩
    obtain ⟨r2, hr2⟩ : ∃ r : Nat, a1 % 4 = (r : Int) := ⟨(a1 % 4).toNat, by omega⟩
    have o1 := fun W => mod_any a1 120 W (by omega) (by omega) h1.1 h1.2
    have o2 := fun W => mod_any a1 4 W (by omega) (by omega) h1.1 h1.2
    rw [hr1] at o1
    rw [hr2] at o2
    have br1 : r1 < 120 := by omega
    have br2 : r2 < 120 := by omega
    have MO1 := Lib.hid o1
    have MO2 := Lib.hid o2
    clear o1 o2 hr1 hr2
    (try go_wp2_with fail)
    refine (MO1.out _).mono ?_
    rintro e9 w' ⟨rfl, rfl⟩
    (try go_wp2_with fail)
    refine (MO2.out _).mono ?_
    rintro e9 w' ⟨rfl, rfl⟩
    have hgx := L.b0.lt
    replace L := L.var wd.heap.size rfl 3 #[.int .i64 (r1 : Int), .int .i64 (r2 : Int)] (plainI2 _ _)
    go_wp2_with fail
    obtain ⟨gr, hgr⟩ : ∃ g9, wd.heap.size = g9 := ⟨_, rfl⟩
    rw [hgr] at L hgx ⊢
    clear hgr MO1 MO2
    have HB := Lib.hid (And.intro br1 br2)
    clear br1 br2
    go_loopw [31] (fun i wr => ∃ t : Nat, i = .int .i64 (t : Int) ∧ t ≤ 2 ∧ Lq w wr [(.slice A (zl m) c, m.natAbs), (.slice B (zl n) d, n.natAbs)] [] [] [(gr, 3, #[.int .i64 (r1 : Int), .int .i64 (r2 : Int)]), (gx, 28, #[.bool (ng m), .slice A (zl m) c, .int .i64 e, .bool (ng n), .slice B (zl n) d, .int .i64 f])]) (fun i _ => 2 - (intOf i).toNat)
    case atStart => exact ⟨0, rfl, by omega, L.subx (by simp) (by simp)⟩
    case round =>
      clear L
      obtain ⟨t, rfl, ht, L⟩ := hrel
      rcases Nat.eq_or_lt_of_le ht with rfl | ht3
      · go_wp2_with fail
        go_ret
        exact ⟨rfl, L.below⟩
      · obtain ⟨r, hr, hrb⟩ : ∃ r : Nat, wr.cell? ⟨gr, t, none⟩ = some (.int .i64 (r : Int)) ∧ r < 120 := by
          rcases (show t = 0 ∨ t = 1 by omega) with rfl | rfl
          · exact ⟨r1, L.b0.cell 0, HB.out.1⟩
          · exact ⟨r2, L.b0.cell 1, HB.out.2⟩
        have hlt : (t : Int) < 2 := by omega
        have ht0 : (0 : Int) ≤ (t : Int) := by omega
        have hX := HX.out
        obtain ⟨sm, tm, tn, _, _⟩ := hX.all (by omega)
        have z1 := hX.zm
        have z2 := hX.zn
        have b1 := hX.em
        have b2 := hX.en
        have g1 := fun v W h (hW : Below w.heap.size w W) => xexp_yes m e n f r v W h (by omega) (by omega) (by omega) (by omega) hX.vm hX.vn sm (by omega) (hX.to200 (by omega)) (HT.out W hW)
        have g2 := fun v W h => at14_any m e r v W h (by omega) (by omega) (Or.inl tm) (by omega)
        have g3 := fun v W h => at14_any n f r v W h (by omega) (by omega) (Or.inl tn) (by omega)
        have g4 := fun a b a1 b1 a2 b2 vx vl vh W pa pb pl ph hx hl hh => near14 r a b a1 b1 a2 b2 (dq m e) (dq n f) vx vl vh W (by omega) hX.le pa pb pl ph hx hl hh
        obtain ⟨k16, hk16⟩ : ∃ k16, r + 16 = k16 := ⟨_, rfl⟩
        rw [hk16] at g2 g3 g4
        have G1 := Lib.hid g1
        have G2 := Lib.hid g2
        have G3 := Lib.hid g3
        have G4 := Lib.hid g4
        have w9 : IntKind.i64.wrap ((t : Int) + 1) = (t : Int) + 1 := by rw [IntKind.wrap_i64]; omega
        have hgx2 := L.tl.b0.lt
        clear g1 g2 g3 g4 hX sm tm tn z1 z2 b1 b2
        have cel10 := L.tl.b0.c60
        have cel11 := L.tl.b0.c61
        have cel12 := L.tl.b0.c62
        have cel13 := L.tl.b0.c63
        have cel14 := L.tl.b0.c64
        have cel15 := L.tl.b0.c65
        go_wp2_with fail
        refine (G1.out _ _ (isI_n (m := m) (e := e) (n := n) (f := f) (s := .slice A (zl m) c) (t := .slice B (zl n) d) (L.getN (by simp)) (L.getN (by simp))) L.below).mono ?_
        intro e9 w41 hr9
        obtain ⟨a, b, ea, eb, vv, rfl, ii, be⟩ := hr9.ab
        clear cel10 cel11 cel12 cel13 cel14 cel15
        obtain ⟨A2, c2, B2, d2, rfl, ia, ib⟩ := ii.form
        replace L := ((L.step be).n ib).n ia
        clear be ii ia ib hr9
        have hl9 := L.b0.lt
        have hng0 := ng_mk (k := r) ea.1 ea.2.1 (by omega) (by omega)
        have g5 := fun a1 b1 a2 b2 vx vl vh W pl ph hx hl hh => G4.out a b a1 b1 a2 b2 vx vl vh W ea eb pl ph hx hl hh
        clear ea eb G4 hr
        obtain ⟨Ma, hMa⟩ : ∃ z, mkM a (-(r : Int)) = z := ⟨_, rfl⟩
        obtain ⟨Ea, hEa⟩ : ∃ z, mkE a (-(r : Int)) = z := ⟨_, rfl⟩
        obtain ⟨Nb, hNb⟩ : ∃ z, mkM b (-(r : Int)) = z := ⟨_, rfl⟩
        obtain ⟨Fb, hFb⟩ : ∃ z, mkE b (-(r : Int)) = z := ⟨_, rfl⟩
        rw [hMa, hEa, hNb, hFb] at g5
        rw [hMa] at hng0
        rw [hMa, hNb] at L ⊢
        rw [hEa, hFb]
        have G5 := Lib.hid g5
        have HNG := Lib.hid hng0
        clear g5 hng0 hMa hEa hNb hFb
        replace L := L.varI w41.heap.size rfl (ng Ma) A2 (zl Ma) c2 Ea (ng Nb) B2 (zl Nb) d2 Fb
        have cel00 := L.b0.c60
        have cel01 := L.b0.c61
        have cel02 := L.b0.c62
        have cel03 := L.b0.c63
        have cel04 := L.b0.c64
        have cel05 := L.b0.c65
        go_wp2_with fail
        clear cel00 cel01 cel02 cel03 cel04 cel05
        obtain ⟨gy, hgy⟩ : ∃ g9, w41.heap.size = g9 := ⟨_, rfl⟩
        rw [hgy] at L hl9 ⊢
        clear hgy
        have hng := HNG.out
        rw [hng] at L ⊢
        replace L := L.drew
        have cel00 := L.b0.c60
        have cel01 := L.b0.c61
        have cel02 := L.b0.c62
        have cel03 := L.b0.c63
        have cel04 := L.b0.c64
        have cel05 := L.b0.c65
        have cel20 := L.tl.tl.b0.c60
        have cel21 := L.tl.tl.b0.c61
        have cel22 := L.tl.tl.b0.c62
        have cel23 := L.tl.tl.b0.c63
        have cel24 := L.tl.tl.b0.c64
        have cel25 := L.tl.tl.b0.c65
        go_region_held3 (fun w' => w'.cell? ⟨gy, 0, none⟩ = some (.bool false) ∧ w'.cell? ⟨gy, 1, none⟩ = some (.slice A2 (zl Ma) c2) ∧ w'.cell? ⟨gy, 2, none⟩ = some (.int .i64 Ea) ∧ w'.cell? ⟨gy, 3, none⟩ = some (.bool (ng Nb)) ∧ w'.cell? ⟨gy, 4, none⟩ = some (.slice B2 (zl Nb) d2) ∧ w'.cell? ⟨gy, 5, none⟩ = some (.int .i64 Fb) ∧ w'.cell? ⟨gx, 0, none⟩ = some (.bool (ng m)) ∧ w'.cell? ⟨gx, 1, none⟩ = some (.slice A (zl m) c) ∧ w'.cell? ⟨gx, 2, none⟩ = some (.int .i64 e) ∧ w'.cell? ⟨gx, 3, none⟩ = some (.bool (ng n)) ∧ w'.cell? ⟨gx, 4, none⟩ = some (.slice B (zl n) d) ∧ w'.cell? ⟨gx, 5, none⟩ = some (.int .i64 f)) (first | (with_reducible exact ⟨L.b0.c60, L.b0.c61, L.b0.c62, L.b0.c63, L.b0.c64, L.b0.c65, L.tl.tl.b0.c60, L.tl.tl.b0.c61, L.tl.tl.b0.c62, L.tl.tl.b0.c63, L.tl.tl.b0.c64, L.tl.tl.b0.c65⟩) | exact ⟨L.b0.c60, L.b0.c61, L.b0.c62, L.b0.c63, L.b0.c64, L.b0.c65, L.tl.tl.b0.c60, L.tl.tl.b0.c61, L.tl.tl.b0.c62, L.tl.tl.b0.c63, L.tl.tl.b0.c64, L.tl.tl.b0.c65⟩) (first | (go_at_call 16; (with_reducible refine (G2.out _ _ ?_).mono ?_); (· (refine isD_n (L.getN ?_); (repeat (first | (with_reducible exact List.mem_cons_self) | apply List.mem_cons_of_mem)))); rintro e wh hr9; obtain ⟨x1, y1, ex1, vh, rfl, ii, be⟩ := hr9.ab; obtain ⟨A6, c6, B6, d6, rfl, ia, ib⟩ := ii.form; replace L := ((L.step be).n ib).n ia; clear be ii ia ib hr9) | (go_at_call 16; (with_reducible refine (G3.out _ _ ?_).mono ?_); (· (refine isD_n (L.getN ?_); (repeat (first | (with_reducible exact List.mem_cons_self) | apply List.mem_cons_of_mem)))); rintro e wh hr9; obtain ⟨x2, y2, ex2, vh, rfl, ii, be⟩ := hr9.ab; obtain ⟨A7, c7, B7, d7, rfl, ia, ib⟩ := ii.form; replace L := ((L.step be).n ib).n ia; clear be ii ia ib hr9) | (go_at_call 15; (with_reducible refine (G5.out x1 y1 x2 y2 _ _ _ _ ex1 ex2 ?_ ?_ ?_).mono ?_); (· (refine isI_p hng (L.getN ?_) (L.getN ?_); all_goals (repeat (first | (with_reducible exact List.mem_cons_self) | apply List.mem_cons_of_mem)))); (· (refine isI_n (L.getN ?_) (L.getN ?_); all_goals (repeat (first | (with_reducible exact List.mem_cons_self) | apply List.mem_cons_of_mem)))); (· (refine isI_n (L.getN ?_) (L.getN ?_); all_goals (repeat (first | (with_reducible exact List.mem_cons_self) | apply List.mem_cons_of_mem)))); rintro e wh ⟨rfl, be⟩; replace L := L.step be; clear be))
        (try go_wp2_with fail)
        go_roundw
        case rel => exact ⟨t + 1, by go_num, by omega, L.subx (by simp) (by simp)⟩
        case measure => simp [intOf]; omega

end Go.Proofs.YtnnfldkllhdhjaaGreatDoor
