/- The walk of RadicalPoints: whatever the input, the law returns true and turns nothing that was there. -/
import Derived.Test.YthfabjpbdgieoaaGreatDoorAwake12
import Derived.Test.YthfabjpbdgieoaaGreatDoorRdZ
import Derived.Test.YthfabjpbdgieoaaGreatDoorBaseW
import Derived.Deep.RegionHeld3
import Derived.Deep.DrawnRows
namespace Go.Proofs.YthfabjpbdgieoaaGreatDoor
open Go.RowKit
set_option linter.unusedVariables false
set_option linter.unusedSimpArgs false
set_option maxRecDepth 100000
attribute [local go_sem ↓] Go.wp_at_zero Go.wp_at_succ

set_option maxHeartbeats 128000000 in
theorem walk_RadicalPoints (b0 : Bool) (a0 : Option Addr) (len0 cap0 : Nat) (z0 : List Nat) (f0 : Int) (bb0 : Bool) (aa0 : Option Addr) (ll0 cc0 : Nat) (zz0 : List Nat) (ff0 : Int) (a1 : Int) (a2 : Int) (w : World) (h0 : Sl w a0 len0 cap0 z0 ∧ -9223372036854775808 ≤ f0 ∧ f0 ≤ 9223372036854775807) (k0 : Sl w aa0 ll0 cc0 zz0 ∧ -9223372036854775808 ≤ ff0 ∧ ff0 ≤ 9223372036854775807) (h1 : -9223372036854775808 ≤ a1 ∧ a1 ≤ 9223372036854775807) (h2 : -9223372036854775808 ≤ a2 ∧ a2 ≤ 9223372036854775807) (hT : Tab w) :
    Calls Tryz.prog 6 #[.agg #[.bool b0, .slice a0 len0 cap0, .int .i64 f0, .bool bb0, .slice aa0 ll0 cc0, .int .i64 ff0], .int .i64 a1, .int .i64 a2] w (fun e w' => e = .returned (.bool true) ∧ Below w.heap.size w w') := by
  have HT := Lib.hid (fun W (hW : Below w.heap.size w W) => hT.mono hW)
  clear hT
  go_enter Tryz.func6, Tryz.ntmps6
  go_wp2_with fail
  have L := ((Lq.mk0 w).varI (w.heap.size) (by simp) b0 a0 len0 cap0 f0 bb0 aa0 ll0 cc0 ff0)
  (try go_wp2_with fail)
  refine (awake12_any _ (HT.out _ L.below)).mono ?_
  rintro e9 w1 ⟨rfl, be⟩
  replace L := L.step be
  clear be
  have c00 := L.b0.c60
  have c01 := L.b0.c61
  have c02 := L.b0.c62
  have c03 := L.b0.c63
  have c04 := L.b0.c64
  have c05 := L.b0.c65
  (try go_wp2_with fail)
  refine (millI_any b0 bb0 z0 zz0 2 6 a0 aa0 len0 cap0 ll0 cc0 f0 ff0 _ (h0.1.mono L.below) (k0.1.mono L.below) (by omega) (by omega) h0.2.1 h0.2.2 k0.2.1 k0.2.2).mono ?_
  rintro e9 w2 ⟨vx, ok, m, e, n, f, rfl, ii, ⟨lm, ln⟩, he, hf, hv, le1, be⟩
  clear c00 c01 c02 c03 c04 c05
  obtain ⟨A, c, B, d, rfl, ia, ib⟩ := ii.form
  replace L := ((L.step be).n ib).n ia
  clear be ii ia ib
  have hlt0 := L.b0.lt
  replace L := L.varI w2.heap.size rfl (ng m) A (zl m) c e (ng n) B (zl n) d f
  cases ok
  · go_wp2_with fail
    go_ret
    exact ⟨rfl, L.below⟩
  obtain ⟨dv1, dv2⟩ := hv (by first | trivial | rfl)
  clear hv
  have c1 := (dcm_le _ _ _ _).1 le1
  have x1 : Bd (dq m e) 198 := bd_dq (k := 3) (by omega) (by omega)
  have x2 : Bd (dq n f) 198 := bd_dq (k := 3) (by omega) (by omega)
  obtain ⟨r1, hr1⟩ : ∃ r : Nat, a1 % 13 = (r : Int) := ⟨(a1 % 13).toNat, by omega⟩
  have o1 := fun W => mod_any a1 13 W (by omega) (by omega) h1.1 h1.2
  rw [hr1] at o1
  obtain ⟨r2, hr2⟩ : ∃ r : Nat, a2 % 60 = (r : Int) := ⟨(a2 % 60).toNat, by omega⟩
  have o2 := fun W => mod_any a2 60 W (by omega) (by omega) h2.1 h2.2
  rw [hr2] at o2
  have br1 : r1 < 13 := by omega
  have br2 : r2 < 60 := by omega
  have MO1 := Lib.hid o1
  have MO2 := Lib.hid o2
  obtain ⟨J, hJ⟩ : ∃ z, (r1 : Int) - 6 = z := ⟨_, rfl⟩
  have ww : IntKind.i64.wrap ((r1 : Int) - 6) = J := by rw [IntKind.wrap_i64]; omega
  have bJ : -6 ≤ J ∧ J ≤ 6 := by omega
  obtain ⟨M1, E1, N1, G1, rr, fx1, b1, b2, h1'⟩ := RetPw.fix m e n f J (r2 : Int)
  have p1 := fun v W h (hW : Below w.heap.size w W) => dpw_any m e n f J (r2 : Int) v W h (by omega) (by omega) (by omega) (by omega) dv1 dv2 le1 (fun h => ⟨pb_of dv1 x1 (by omega) (by omega) h, pb_of dv2 x2 (by omega) (by omega) h⟩) (by omega) (by omega) (small_bd x1 x2 (by omega) (by omega) (by omega) le1) (HT.out W hW)
  simp only [fx1] at p1
  have P1 := Lib.hid p1
  have HPO := Lib.hid (fun mc ec (h : El (dq m e) (dq n f) mc ec) => point_ok (j := J) (k := (r2 : Int)) (mc := mc) (ec := ec) le1 x1 x2 bJ (by omega) b1 b2 h1' h.1 h.2.1 h.2.2.1 h.2.2.2.1 h.2.2.2.2)
  obtain ⟨z40, q1, q2, q9, q3, q4, _, q5, q6⟩ := mid_ok (show zl m ≤ 6 by omega) (show zl n ≤ 6 by omega) (by omega) (by omega) le1
  have md : ∀ v W, IsI W v m e n f → Calls Tryz.prog 30 #[v] W (RetDE W (midM m e n f) (midE m e n f) 0) := fun v W h => by
    have s := r10mid_any m e n f v W h (by omega) (by omega) (by omega) (by omega) q1 (by omega)
    rw [q2] at s
    exact s
  have q7 : -64 ≤ midE m e n f := by
    have z1 := mkE_ge9 (addS m e n f) (min e f)
    have z2 := mkE_ge9 (mkM (addS m e n f) (min e f)) (mkE (addS m e n f) (min e f) + -1)
    unfold midE
    omega
  have HX1 := Lib.hid (show El (dq m e) (dq n f) m e from ⟨Rat.le_refl, c1, by omega, by omega, dv1⟩)
  have HX2 := Lib.hid (show El (dq m e) (dq n f) n f from ⟨c1, Rat.le_refl, by omega, by omega, dv2⟩)
  have hx3 : El (dq m e) (dq n f) (midM m e n f) (midE m e n f) := ⟨q5, q6, q3, by omega, q9⟩
  obtain ⟨mx, h9⟩ : ∃ z, midM m e n f = z := ⟨_, rfl⟩
  obtain ⟨kx, h8⟩ : ∃ z, midE m e n f = z := ⟨_, rfl⟩
  rw [h9, h8] at md hx3
  have HX3 := Lib.hid hx3
  have MD1 := Lib.hid md
  clear z40 q1 q2 q3 q4 q5 q6 q7 q9 md hx3 h9 h8 p1 fx1 b1 b2 h1' o1 o2 hr1 hr2 br1 br2 hJ bJ x1 x2 c1 lm ln he hf le1 dv1 dv2
  have cel00 := L.b0.c60
  have cel01 := L.b0.c61
  have cel02 := L.b0.c62
  have cel03 := L.b0.c63
  have cel04 := L.b0.c64
  have cel05 := L.b0.c65
  go_wp2_with fail
  obtain ⟨g, hg⟩ : ∃ g, w2.heap.size = g := ⟨_, rfl⟩
  rw [hg] at L hlt0 cel00 cel01 cel02 cel03 cel04 cel05 ⊢
  clear hg
  refine (MO1.out _).mono ?_
  rintro e9 w' ⟨rfl, rfl⟩
  (try go_wp2_with fail)
  refine (MO2.out _).mono ?_
  rintro e9 w' ⟨rfl, rfl⟩
  go_wp2_with fail
  clear ww
  refine (P1.out _ _ (isI_n (m := m) (e := e) (n := n) (f := f) (s := .slice A (zl m) c) (t := .slice B (zl n) d) (L.getN (by simp)) (L.getN (by simp))) L.below).mono ?_
  rintro e w3 ⟨vv, rfl, ii, be⟩
  clear cel00 cel01 cel02 cel03 cel04 cel05
  obtain ⟨A11, c11, B11, d11, rfl, ia, ib⟩ := ii.form
  replace L := ((L.step be).n ib).n ia
  clear be ii ia ib
  have hlgv10 := L.b0.lt
  replace L := L.varI w3.heap.size rfl (ng M1) A11 (zl M1) c11 E1 (ng N1) B11 (zl N1) d11 G1
  have cel10 := L.tl.b0.c60
  have cel11 := L.tl.b0.c61
  have cel12 := L.tl.b0.c62
  have cel13 := L.tl.b0.c63
  have cel14 := L.tl.b0.c64
  have cel15 := L.tl.b0.c65
  go_wp2_with fail
  obtain ⟨gv1, hg⟩ : ∃ g, w3.heap.size = g := ⟨_, rfl⟩
  rw [hg] at L hlgv10 ⊢
  clear hg
  refine (MD1.out _ _ (isI_n (m := m) (e := e) (n := n) (f := f) (s := .slice A (zl m) c) (t := .slice B (zl n) d) (L.getN (by simp)) (L.getN (by simp)))).mono ?_
  rintro e w4 ⟨vv, rfl, id, be⟩
  clear cel10 cel11 cel12 cel13 cel14 cel15
  obtain ⟨A14, c14, rfl, _, in9⟩ := id.form
  replace L := (L.step be).n in9
  clear be id in9
  have hlm1 := L.b0.lt
  have hlm2 := L.tl.b0.lt
  replace L := L.varD w4.heap.size rfl (ng mx) A14 (zl mx) c14 kx
  have cel00 := L.b0.c30
  have cel01 := L.b0.c31
  have cel02 := L.b0.c32
  have cel20 := L.tl.tl.b0.c60
  have cel21 := L.tl.tl.b0.c61
  have cel22 := L.tl.tl.b0.c62
  have cel23 := L.tl.tl.b0.c63
  have cel24 := L.tl.tl.b0.c64
  have cel25 := L.tl.tl.b0.c65
  go_wp2_with fail
  clear cel00 cel01 cel02 cel20 cel21 cel22 cel23 cel24 cel25
  replace L := L.var (w4.heap.size + 1) (by simp) 26 #[.bool (ng m), .slice A (zl m) c, .int .i64 e, .bool (ng n), .slice B (zl n) d, .int .i64 f, .bool (ng mx), .slice A14 (zl mx) c14, .int .i64 kx] (plainD_3 m e n f mx kx A B A14 c d c14)
  obtain ⟨gm1, hg⟩ : ∃ g, w4.heap.size = g := ⟨_, rfl⟩
  rw [hg] at L hlm1 hlm2 ⊢
  clear hg
  obtain ⟨V, hV, L9⟩ := L.name
  rw [hV]
  clear hV L
  have L := L9
  clear L9
  have HXR := Lib.hid (fun (wr : World) (hW : Below V.heap.size V wr) (t : Nat) (ht : t < 3) => row3_cell (L.b0.mono hW) ((L.getN (v := .slice A (zl m) c) (x := m.natAbs) (by simp)).mono hW) ((L.getN (v := .slice B (zl n) d) (x := n.natAbs) (by simp)).mono hW) ((L.getN (v := .slice A14 (zl mx) c14) (x := mx.natAbs) (by simp)).mono hW) HX1.out HX2.out HX3.out t ht)
  have LL := Lib.hid L
  clear L
  go_loopw [54] (fun i wr => ∃ t : Nat, i = .int .i64 (t : Int) ∧ t ≤ 3 ∧ Below V.heap.size V wr) (fun i _ => 3 - (intOf i).toNat)
  case atStart => exact ⟨0, rfl, by omega, Below.refl _ _⟩
  case round =>
    obtain ⟨t, rfl, ht, hbe⟩ := hrel
    have hbs := hbe.size
    rcases Nat.eq_or_lt_of_le ht with rfl | ht3
    · go_wp2_with fail
      go_ret
      exact ⟨rfl, (LL.out.step hbe).below⟩
    · obtain ⟨mc, ec, Ac, cc, y0, y1, y2, ic, hc⟩ := HXR.out wr hbe t ht3
      have hlt : (t : Int) < 3 := by omega
      have ht0 : (0 : Int) ≤ (t : Int) := by omega
      have hgV := (LL.out.step hbe).b0.lt
      obtain ⟨xa, xd, ya, yd, ye, S, F, M2, E2, N2, G2, za, zd, q1, q2, q3, q4, q5, q6, q7, q8⟩ := HPO.out mc ec hc
      have hUw := LL.out.below.trans (hbe.mono LL.out.below.size)
      have hUs := hUw.size
      have HTW := Lib.hid (fun W (hW : Below wr.heap.size wr W) => HT.out W (hUw.trans (hW.mono hUs)))
      have Q1 := Lib.hid q1
      have Q2 := Lib.hid q2
      have Q3 := Lib.hid q3
      have Q4 := Lib.hid q4
      have Q5 := Lib.hid q5
      have Q8 := Lib.hid q8
      have HN6 := Lib.hid q6
      have HR7 := Lib.hid q7
      have L := ((LL.out.step hbe).rebase.n ic).varD wr.heap.size rfl (ng mc) Ac (zl mc) cc ec
      clear hc ic q1 q2 q3 q4 q5 q6 q7 q8 hUw hUs
      have cel00 := L.b0.c30
      have cel01 := L.b0.c31
      have cel02 := L.b0.c32
      go_wp2_with fail
      clear y0 y1 y2
      obtain ⟨gd, hgd⟩ : ∃ g, wr.heap.size = g := ⟨_, rfl⟩
      have hgd9 := hgd
      rw [hgd] at L hgV cel00 cel01 cel02 ⊢
      clear hgd
      clear cel00 cel01 cel02
      refine (Q1.out _ _ (isD_n (m := mc) (e := ec) (s := .slice Ac (zl mc) cc) (L.getN (by simp)))).mono ?_
      rintro e w101 ⟨vq, rfl, iq, be⟩
      replace L := (L.step be).q iq
      clear be iq
      (try go_wp2_with fail)
      refine (Q2.out _ _ (L.getQ (by simp))).mono ?_
      rintro e w102 ⟨vq2, rfl, iq, be⟩
      obtain ⟨A27, c27, B27, k27, rfl, _, _, _⟩ := iq.form
      replace L := (L.step be).q iq
      clear be iq
      have hlq0 := L.b0.lt
      have hlq1 := L.tl.tl.tl.b0.lt
      replace L := L.varQ w102.heap.size rfl (ng ya) A27 B27 (zl ya) c27 (len yd) k27
      by_cases hr : rr = 0
      · have b0 : (rr == 0) = true := by simpa using hr
        obtain ⟨he7, q9⟩ := Q3.out hr
        have QH := Lib.hid q9
        subst he7
        clear hr q9 Q3
        have cel00 := L.b0.c30
        have cel01 := L.b0.c31
        have cel02 := L.b0.c32
        have cel40 := L.tl.tl.tl.tl.b0.c60
        have cel41 := L.tl.tl.tl.tl.b0.c61
        have cel42 := L.tl.tl.tl.tl.b0.c62
        have cel43 := L.tl.tl.tl.tl.b0.c63
        have cel44 := L.tl.tl.tl.tl.b0.c64
        have cel45 := L.tl.tl.tl.tl.b0.c65
        go_wp2_with fail
        obtain ⟨gq, hg⟩ : ∃ g, w102.heap.size = g := ⟨_, rfl⟩
        rw [hg] at L hlq0 hlq1 cel00 cel01 cel02 ⊢
        clear hg
        refine (QH.out _ _ _ (isI_n (m := M1) (e := E1) (n := N1) (f := G1) (s := .slice A11 (zl M1) c11) (t := .slice B11 (zl N1) d11) (L.getN (by simp)) (L.getN (by simp))) (L.getQ (v := .agg #[.bool (ng ya), .slice A27 (zl ya) c27, .slice B27 (len yd) k27]) (a := ya) (d := yd) (by simp))).mono ?_
        rintro e w103 ⟨rfl, be⟩
        clear cel00 cel01 cel02 cel40 cel41 cel42 cel43 cel44 cel45
        replace L := L.step be
        clear be
        have cel10 := L.tl.b0.c30
        have cel11 := L.tl.b0.c31
        have cel12 := L.tl.b0.c32
        go_wp2_with fail
        refine (Q4.out _ _ _ (isD_n (m := mc) (e := ec) (s := .slice Ac (zl mc) cc) (L.getN (by simp))) (isD_n (m := mc) (e := ec) (s := .slice Ac (zl mc) cc) (L.getN (by simp)))).mono ?_
        rintro e w104 ⟨vv, rfl, id, be⟩
        clear cel10 cel11 cel12
        obtain ⟨A31, c31, rfl, _, in9⟩ := id.form
        replace L := (L.step be).n in9
        clear be id in9
        have hlgs0 := L.b0.lt
        replace L := L.varD w104.heap.size rfl (ng S) A31 (zl S) c31 F
        have cel00 := L.b0.c30
        have cel01 := L.b0.c31
        have cel02 := L.b0.c32
        go_wp2_with fail
        obtain ⟨gs, hg⟩ : ∃ g, w104.heap.size = g := ⟨_, rfl⟩
        rw [hg] at L hlgs0 cel00 cel01 cel02 ⊢
        clear hg
        refine (Q5.out _ _ (isI_n (m := S) (e := F) (n := S) (f := F) (s := .slice A31 (zl S) c31) (t := .slice A31 (zl S) c31) (L.getN (by simp)) (L.getN (by simp))) (HTW.out _ (hgd9 ▸ L.below))).mono ?_
        rintro e w105 ⟨vv, rfl, ii, be⟩
        clear cel00 cel01 cel02
        obtain ⟨A32, c32, B32, d32, rfl, ia, ib⟩ := ii.form
        replace L := ((L.step be).n ib).n ia
        clear be ii ia ib
        have hls0 := L.b0.lt
        have hls1 := L.tl.tl.b0.lt
        replace L := L.varI w105.heap.size rfl (ng M2) A32 (zl M2) c32 E2 (ng N2) B32 (zl N2) d32 G2
        by_cases hm : mc < 0
        · have hng9 : ng mc = true := ng_yes hm
          have HNG := Lib.hid hng9
          have q7 := HR7.out
          have q6 := HN6.out
          have hab : ((mc.natAbs : Nat) : Int) = -mc := by omega
          rw [hab] at q7
          obtain ⟨ma, hma⟩ : ∃ z, -mc = z := ⟨_, rfl⟩
          rw [hma] at q6 q7
          have Q6 := Lib.hid q6
          have Q7 := Lib.hid q7
          clear hng9 q6 q7 hab hma hm HR7 HN6
          have cel00 := L.b0.c60
          have cel01 := L.b0.c61
          have cel02 := L.b0.c62
          have cel03 := L.b0.c63
          have cel04 := L.b0.c64
          have cel05 := L.b0.c65
          have cz0 := (L.tl.tl.tl.b0.c30).trans (congrArg (fun b => some (Value.bool b)) HNG.out)
          have cz1 := L.tl.tl.tl.b0.c31
          have cz2 := L.tl.tl.tl.b0.c32
          go_wp2_with fail
          clear cz0 cz1 cz2
          obtain ⟨gt, hg⟩ : ∃ g, w105.heap.size = g := ⟨_, rfl⟩
          rw [hg] at L hls0 hls1 cel00 cel01 cel02 cel03 cel04 cel05 ⊢
          clear hg
          clear cel00 cel01 cel02 cel03 cel04 cel05
          refine (Q6.out _ _ (isD_b8 (m := mc) (e := ec) HNG.out (L.getN (v := .slice Ac (zl mc) cc) (x := mc.natAbs) (by simp)))).mono ?_
          rintro e w106 ⟨vv, rfl, id, be⟩
          obtain ⟨A33, c33, rfl, _, in9⟩ := id.form
          replace L := (L.step be).n in9
          clear be id in9
          have hgdt : gd < gt := by omega
          replace L := L.pick [(gd, 26, #[.bool (ng mc), .slice Ac (zl mc) cc, .int .i64 ec]), (gt, 28, #[.bool (ng M2), .slice A32 (zl M2) c32, .int .i64 E2, .bool (ng N2), .slice B32 (zl N2) d32, .int .i64 G2])] (by simp)
          have cel00 := L.b0.c30
          have f00 := L.b0.fr 0
          have cel01 := L.b0.c31
          have f01 := L.b0.fr 1
          have cel02 := L.b0.c32
          have f02 := L.b0.fr 2
          have P := L.putD (by omega) (by first | (simp; done) | (simp; omega)) (ng ma) A33 (zl ma) c33 ec
          unfold put3 at P
          (try go_wp2_with fail)
          replace L := P
          clear P
          clear cel00 f00 cel01 f01 cel02 f02
          replace L := L.drew
          have cel00 := L.b0.c30
          have cel01 := L.b0.c31
          have cel02 := L.b0.c32
          have cel10 := L.tl.b0.c60
          have cel11 := L.tl.b0.c61
          have cel12 := L.tl.b0.c62
          have cel13 := L.tl.b0.c63
          have cel14 := L.tl.b0.c64
          have cel15 := L.tl.b0.c65
          go_region_held3 (fun w' => w'.cell? ⟨gd, 0, none⟩ = some (.bool (ng ma)) ∧ w'.cell? ⟨gd, 1, none⟩ = some (.slice A33 (zl ma) c33) ∧ w'.cell? ⟨gd, 2, none⟩ = some (.int .i64 ec) ∧ w'.cell? ⟨gt, 0, none⟩ = some (.bool (ng M2)) ∧ w'.cell? ⟨gt, 1, none⟩ = some (.slice A32 (zl M2) c32) ∧ w'.cell? ⟨gt, 2, none⟩ = some (.int .i64 E2) ∧ w'.cell? ⟨gt, 3, none⟩ = some (.bool (ng N2)) ∧ w'.cell? ⟨gt, 4, none⟩ = some (.slice B32 (zl N2) d32) ∧ w'.cell? ⟨gt, 5, none⟩ = some (.int .i64 G2)) (first | (with_reducible exact ⟨L.b0.c30, L.b0.c31, L.b0.c32, L.tl.b0.c60, L.tl.b0.c61, L.tl.b0.c62, L.tl.b0.c63, L.tl.b0.c64, L.tl.b0.c65⟩) | exact ⟨L.b0.c30, L.b0.c31, L.b0.c32, L.tl.b0.c60, L.tl.b0.c61, L.tl.b0.c62, L.tl.b0.c63, L.tl.b0.c64, L.tl.b0.c65⟩) (first | (go_at_call 32; (with_reducible refine (Q7.out _ _ ?_ ).mono ?_); (· (refine isD_n (L.getN ?_); (repeat (first | (with_reducible exact List.mem_cons_self) | apply List.mem_cons_of_mem)))); rintro e wh ⟨vh, rfl, iq, be⟩; replace L := (L.step be).q iq; clear be iq) | (go_at_call 33; (with_reducible refine (Q8.out _ _ _ ?_ ?_ ).mono ?_); (· (refine isI_n (L.getN ?_) (L.getN ?_) <;> (repeat (first | (with_reducible exact List.mem_cons_self) | apply List.mem_cons_of_mem)))); (· (refine L.getQ ?_; (repeat (first | (with_reducible exact List.mem_cons_self) | apply List.mem_cons_of_mem)))); rintro e wh ⟨rfl, be⟩; replace L := L.step be; clear be))
          clear cel00 cel01 cel02 cel10 cel11 cel12 cel13 cel14 cel15
          go_wp2_with fail
          go_roundw
          case rel => exact ⟨t + 1, by go_num, by omega, hbe.trans (L.below.mono hbs)⟩
          case measure => simp [intOf]; omega
        · have hng9 : ng mc = false := ng_no (by omega)
          have HNG := Lib.hid hng9
          have q7 := HR7.out
          have q6 := HN6.out
          rw [show ((mc.natAbs : Nat) : Int) = mc by omega] at q7
          have Q7 := Lib.hid q7
          clear hng9 q6 q7 hm HR7 HN6
          have cel00 := L.b0.c60
          have cel01 := L.b0.c61
          have cel02 := L.b0.c62
          have cel03 := L.b0.c63
          have cel04 := L.b0.c64
          have cel05 := L.b0.c65
          have cz0 := (L.tl.tl.tl.b0.c30).trans (congrArg (fun b => some (Value.bool b)) HNG.out)
          have cz1 := L.tl.tl.tl.b0.c31
          have cz2 := L.tl.tl.tl.b0.c32
          go_wp2_with fail
          clear cz0 cz1 cz2
          obtain ⟨gt, hg⟩ : ∃ g, w105.heap.size = g := ⟨_, rfl⟩
          rw [hg] at L hls0 hls1 cel00 cel01 cel02 cel03 cel04 cel05 ⊢
          clear hg
          clear cel00 cel01 cel02 cel03 cel04 cel05
          have hgdt : gd < gt := by omega
          replace L := L.pick [(gd, 26, #[.bool (ng mc), .slice Ac (zl mc) cc, .int .i64 ec]), (gt, 28, #[.bool (ng M2), .slice A32 (zl M2) c32, .int .i64 E2, .bool (ng N2), .slice B32 (zl N2) d32, .int .i64 G2])] (by simp)
          replace L := L.drew
          have cel00 := L.b0.c30
          have cel01 := L.b0.c31
          have cel02 := L.b0.c32
          have cel10 := L.tl.b0.c60
          have cel11 := L.tl.b0.c61
          have cel12 := L.tl.b0.c62
          have cel13 := L.tl.b0.c63
          have cel14 := L.tl.b0.c64
          have cel15 := L.tl.b0.c65
          go_region_held3 (fun w' => w'.cell? ⟨gd, 0, none⟩ = some (.bool (ng mc)) ∧ w'.cell? ⟨gd, 1, none⟩ = some (.slice Ac (zl mc) cc) ∧ w'.cell? ⟨gd, 2, none⟩ = some (.int .i64 ec) ∧ w'.cell? ⟨gt, 0, none⟩ = some (.bool (ng M2)) ∧ w'.cell? ⟨gt, 1, none⟩ = some (.slice A32 (zl M2) c32) ∧ w'.cell? ⟨gt, 2, none⟩ = some (.int .i64 E2) ∧ w'.cell? ⟨gt, 3, none⟩ = some (.bool (ng N2)) ∧ w'.cell? ⟨gt, 4, none⟩ = some (.slice B32 (zl N2) d32) ∧ w'.cell? ⟨gt, 5, none⟩ = some (.int .i64 G2)) (first | (with_reducible exact ⟨L.b0.c30, L.b0.c31, L.b0.c32, L.tl.b0.c60, L.tl.b0.c61, L.tl.b0.c62, L.tl.b0.c63, L.tl.b0.c64, L.tl.b0.c65⟩) | exact ⟨L.b0.c30, L.b0.c31, L.b0.c32, L.tl.b0.c60, L.tl.b0.c61, L.tl.b0.c62, L.tl.b0.c63, L.tl.b0.c64, L.tl.b0.c65⟩) (first | (go_at_call 32; (with_reducible refine (Q7.out _ _ ?_ ).mono ?_); (· (refine isD_n (L.getN ?_); (repeat (first | (with_reducible exact List.mem_cons_self) | apply List.mem_cons_of_mem)))); rintro e wh ⟨vh, rfl, iq, be⟩; replace L := (L.step be).q iq; clear be iq) | (go_at_call 33; (with_reducible refine (Q8.out _ _ _ ?_ ?_ ).mono ?_); (· (refine isI_n (L.getN ?_) (L.getN ?_) <;> (repeat (first | (with_reducible exact List.mem_cons_self) | apply List.mem_cons_of_mem)))); (· (refine L.getQ ?_; (repeat (first | (with_reducible exact List.mem_cons_self) | apply List.mem_cons_of_mem)))); rintro e wh ⟨rfl, be⟩; replace L := L.step be; clear be))
          clear cel00 cel01 cel02 cel10 cel11 cel12 cel13 cel14 cel15
          go_wp2_with fail
          go_roundw
          case rel => exact ⟨t + 1, by go_num, by omega, hbe.trans (L.below.mono hbs)⟩
          case measure => simp [intOf]; omega
      · have b0 : (rr == 0) = false := by simpa using hr
        clear hr Q3
        have cel00 := L.b0.c30
        have cel01 := L.b0.c31
        have cel02 := L.b0.c32
        have cel10 := L.tl.b0.c30
        have cel11 := L.tl.b0.c31
        have cel12 := L.tl.b0.c32
        go_wp2_with fail
        obtain ⟨gq, hg⟩ : ∃ g, w102.heap.size = g := ⟨_, rfl⟩
        rw [hg] at L hlq0 hlq1 cel00 cel01 cel02 ⊢
        clear hg
        refine (Q4.out _ _ _ (isD_n (m := mc) (e := ec) (s := .slice Ac (zl mc) cc) (L.getN (by simp))) (isD_n (m := mc) (e := ec) (s := .slice Ac (zl mc) cc) (L.getN (by simp)))).mono ?_
        rintro e w103 ⟨vv, rfl, id, be⟩
        clear cel00 cel01 cel02 cel10 cel11 cel12
        obtain ⟨A31, c31, rfl, _, in9⟩ := id.form
        replace L := (L.step be).n in9
        clear be id in9
        have hlgs0 := L.b0.lt
        replace L := L.varD w103.heap.size rfl (ng S) A31 (zl S) c31 F
        have cel00 := L.b0.c30
        have cel01 := L.b0.c31
        have cel02 := L.b0.c32
        go_wp2_with fail
        obtain ⟨gs, hg⟩ : ∃ g, w103.heap.size = g := ⟨_, rfl⟩
        rw [hg] at L hlgs0 cel00 cel01 cel02 ⊢
        clear hg
        refine (Q5.out _ _ (isI_n (m := S) (e := F) (n := S) (f := F) (s := .slice A31 (zl S) c31) (t := .slice A31 (zl S) c31) (L.getN (by simp)) (L.getN (by simp))) (HTW.out _ (hgd9 ▸ L.below))).mono ?_
        rintro e w104 ⟨vv, rfl, ii, be⟩
        clear cel00 cel01 cel02
        obtain ⟨A32, c32, B32, d32, rfl, ia, ib⟩ := ii.form
        replace L := ((L.step be).n ib).n ia
        clear be ii ia ib
        have hls0 := L.b0.lt
        have hls1 := L.tl.tl.b0.lt
        replace L := L.varI w104.heap.size rfl (ng M2) A32 (zl M2) c32 E2 (ng N2) B32 (zl N2) d32 G2
        by_cases hm : mc < 0
        · have hng9 : ng mc = true := ng_yes hm
          have HNG := Lib.hid hng9
          have q7 := HR7.out
          have q6 := HN6.out
          have hab : ((mc.natAbs : Nat) : Int) = -mc := by omega
          rw [hab] at q7
          obtain ⟨ma, hma⟩ : ∃ z, -mc = z := ⟨_, rfl⟩
          rw [hma] at q6 q7
          have Q6 := Lib.hid q6
          have Q7 := Lib.hid q7
          clear hng9 q6 q7 hab hma hm HR7 HN6
          have cel00 := L.b0.c60
          have cel01 := L.b0.c61
          have cel02 := L.b0.c62
          have cel03 := L.b0.c63
          have cel04 := L.b0.c64
          have cel05 := L.b0.c65
          have cz0 := (L.tl.tl.tl.b0.c30).trans (congrArg (fun b => some (Value.bool b)) HNG.out)
          have cz1 := L.tl.tl.tl.b0.c31
          have cz2 := L.tl.tl.tl.b0.c32
          go_wp2_with fail
          clear cz0 cz1 cz2
          obtain ⟨gt, hg⟩ : ∃ g, w104.heap.size = g := ⟨_, rfl⟩
          rw [hg] at L hls0 hls1 cel00 cel01 cel02 cel03 cel04 cel05 ⊢
          clear hg
          clear cel00 cel01 cel02 cel03 cel04 cel05
          refine (Q6.out _ _ (isD_b8 (m := mc) (e := ec) HNG.out (L.getN (v := .slice Ac (zl mc) cc) (x := mc.natAbs) (by simp)))).mono ?_
          rintro e w105 ⟨vv, rfl, id, be⟩
          obtain ⟨A33, c33, rfl, _, in9⟩ := id.form
          replace L := (L.step be).n in9
          clear be id in9
          have hgdt : gd < gt := by omega
          replace L := L.pick [(gd, 26, #[.bool (ng mc), .slice Ac (zl mc) cc, .int .i64 ec]), (gt, 28, #[.bool (ng M2), .slice A32 (zl M2) c32, .int .i64 E2, .bool (ng N2), .slice B32 (zl N2) d32, .int .i64 G2])] (by simp)
          have cel00 := L.b0.c30
          have f00 := L.b0.fr 0
          have cel01 := L.b0.c31
          have f01 := L.b0.fr 1
          have cel02 := L.b0.c32
          have f02 := L.b0.fr 2
          have P := L.putD (by omega) (by first | (simp; done) | (simp; omega)) (ng ma) A33 (zl ma) c33 ec
          unfold put3 at P
          (try go_wp2_with fail)
          replace L := P
          clear P
          clear cel00 f00 cel01 f01 cel02 f02
          replace L := L.drew
          have cel00 := L.b0.c30
          have cel01 := L.b0.c31
          have cel02 := L.b0.c32
          have cel10 := L.tl.b0.c60
          have cel11 := L.tl.b0.c61
          have cel12 := L.tl.b0.c62
          have cel13 := L.tl.b0.c63
          have cel14 := L.tl.b0.c64
          have cel15 := L.tl.b0.c65
          go_region_held3 (fun w' => w'.cell? ⟨gd, 0, none⟩ = some (.bool (ng ma)) ∧ w'.cell? ⟨gd, 1, none⟩ = some (.slice A33 (zl ma) c33) ∧ w'.cell? ⟨gd, 2, none⟩ = some (.int .i64 ec) ∧ w'.cell? ⟨gt, 0, none⟩ = some (.bool (ng M2)) ∧ w'.cell? ⟨gt, 1, none⟩ = some (.slice A32 (zl M2) c32) ∧ w'.cell? ⟨gt, 2, none⟩ = some (.int .i64 E2) ∧ w'.cell? ⟨gt, 3, none⟩ = some (.bool (ng N2)) ∧ w'.cell? ⟨gt, 4, none⟩ = some (.slice B32 (zl N2) d32) ∧ w'.cell? ⟨gt, 5, none⟩ = some (.int .i64 G2)) (first | (with_reducible exact ⟨L.b0.c30, L.b0.c31, L.b0.c32, L.tl.b0.c60, L.tl.b0.c61, L.tl.b0.c62, L.tl.b0.c63, L.tl.b0.c64, L.tl.b0.c65⟩) | exact ⟨L.b0.c30, L.b0.c31, L.b0.c32, L.tl.b0.c60, L.tl.b0.c61, L.tl.b0.c62, L.tl.b0.c63, L.tl.b0.c64, L.tl.b0.c65⟩) (first | (go_at_call 32; (with_reducible refine (Q7.out _ _ ?_ ).mono ?_); (· (refine isD_n (L.getN ?_); (repeat (first | (with_reducible exact List.mem_cons_self) | apply List.mem_cons_of_mem)))); rintro e wh ⟨vh, rfl, iq, be⟩; replace L := (L.step be).q iq; clear be iq) | (go_at_call 33; (with_reducible refine (Q8.out _ _ _ ?_ ?_ ).mono ?_); (· (refine isI_n (L.getN ?_) (L.getN ?_) <;> (repeat (first | (with_reducible exact List.mem_cons_self) | apply List.mem_cons_of_mem)))); (· (refine L.getQ ?_; (repeat (first | (with_reducible exact List.mem_cons_self) | apply List.mem_cons_of_mem)))); rintro e wh ⟨rfl, be⟩; replace L := L.step be; clear be))
          clear cel00 cel01 cel02 cel10 cel11 cel12 cel13 cel14 cel15
          go_wp2_with fail
          go_roundw
          case rel => exact ⟨t + 1, by go_num, by omega, hbe.trans (L.below.mono hbs)⟩
          case measure => simp [intOf]; omega
        · have hng9 : ng mc = false := ng_no (by omega)
          have HNG := Lib.hid hng9
          have q7 := HR7.out
          have q6 := HN6.out
          rw [show ((mc.natAbs : Nat) : Int) = mc by omega] at q7
          have Q7 := Lib.hid q7
          clear hng9 q6 q7 hm HR7 HN6
          have cel00 := L.b0.c60
          have cel01 := L.b0.c61
          have cel02 := L.b0.c62
          have cel03 := L.b0.c63
          have cel04 := L.b0.c64
          have cel05 := L.b0.c65
          have cz0 := (L.tl.tl.tl.b0.c30).trans (congrArg (fun b => some (Value.bool b)) HNG.out)
          have cz1 := L.tl.tl.tl.b0.c31
          have cz2 := L.tl.tl.tl.b0.c32
          go_wp2_with fail
          clear cz0 cz1 cz2
          obtain ⟨gt, hg⟩ : ∃ g, w104.heap.size = g := ⟨_, rfl⟩
          rw [hg] at L hls0 hls1 cel00 cel01 cel02 cel03 cel04 cel05 ⊢
          clear hg
          clear cel00 cel01 cel02 cel03 cel04 cel05
          have hgdt : gd < gt := by omega
          replace L := L.pick [(gd, 26, #[.bool (ng mc), .slice Ac (zl mc) cc, .int .i64 ec]), (gt, 28, #[.bool (ng M2), .slice A32 (zl M2) c32, .int .i64 E2, .bool (ng N2), .slice B32 (zl N2) d32, .int .i64 G2])] (by simp)
          replace L := L.drew
          have cel00 := L.b0.c30
          have cel01 := L.b0.c31
          have cel02 := L.b0.c32
          have cel10 := L.tl.b0.c60
          have cel11 := L.tl.b0.c61
          have cel12 := L.tl.b0.c62
          have cel13 := L.tl.b0.c63
          have cel14 := L.tl.b0.c64
          have cel15 := L.tl.b0.c65
          go_region_held3 (fun w' => w'.cell? ⟨gd, 0, none⟩ = some (.bool (ng mc)) ∧ w'.cell? ⟨gd, 1, none⟩ = some (.slice Ac (zl mc) cc) ∧ w'.cell? ⟨gd, 2, none⟩ = some (.int .i64 ec) ∧ w'.cell? ⟨gt, 0, none⟩ = some (.bool (ng M2)) ∧ w'.cell? ⟨gt, 1, none⟩ = some (.slice A32 (zl M2) c32) ∧ w'.cell? ⟨gt, 2, none⟩ = some (.int .i64 E2) ∧ w'.cell? ⟨gt, 3, none⟩ = some (.bool (ng N2)) ∧ w'.cell? ⟨gt, 4, none⟩ = some (.slice B32 (zl N2) d32) ∧ w'.cell? ⟨gt, 5, none⟩ = some (.int .i64 G2)) (first | (with_reducible exact ⟨L.b0.c30, L.b0.c31, L.b0.c32, L.tl.b0.c60, L.tl.b0.c61, L.tl.b0.c62, L.tl.b0.c63, L.tl.b0.c64, L.tl.b0.c65⟩) | exact ⟨L.b0.c30, L.b0.c31, L.b0.c32, L.tl.b0.c60, L.tl.b0.c61, L.tl.b0.c62, L.tl.b0.c63, L.tl.b0.c64, L.tl.b0.c65⟩) (first | (go_at_call 32; (with_reducible refine (Q7.out _ _ ?_ ).mono ?_); (· (refine isD_n (L.getN ?_); (repeat (first | (with_reducible exact List.mem_cons_self) | apply List.mem_cons_of_mem)))); rintro e wh ⟨vh, rfl, iq, be⟩; replace L := (L.step be).q iq; clear be iq) | (go_at_call 33; (with_reducible refine (Q8.out _ _ _ ?_ ?_ ).mono ?_); (· (refine isI_n (L.getN ?_) (L.getN ?_) <;> (repeat (first | (with_reducible exact List.mem_cons_self) | apply List.mem_cons_of_mem)))); (· (refine L.getQ ?_; (repeat (first | (with_reducible exact List.mem_cons_self) | apply List.mem_cons_of_mem)))); rintro e wh ⟨rfl, be⟩; replace L := L.step be; clear be))
          clear cel00 cel01 cel02 cel10 cel11 cel12 cel13 cel14 cel15
          go_wp2_with fail
          go_roundw
          case rel => exact ⟨t + 1, by go_num, by omega, hbe.trans (L.below.mono hbs)⟩
          case measure => simp [intOf]; omega

end Go.Proofs.YthfabjpbdgieoaaGreatDoor
