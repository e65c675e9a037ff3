/- The walk of RadicalRoots: whatever the input, the law returns true and turns nothing that was there. -/
import Derived.Test.YthfabjpbdgieoaaGreatDoorAwake12
import Derived.Test.YthfabjpbdgieoaaGreatDoorRefRdB
import Derived.Deep.RegionHeld3
import Derived.Deep.DrawnRows
import Derived.Deep.Cut
import Derived.Deep.CutRange
namespace Go.Proofs.YthfabjpbdgieoaaGreatDoor
open Go.RowKit
set_option linter.unusedVariables false
set_option linter.unusedSimpArgs false
set_option maxRecDepth 100000
attribute [local go_sem ↓] Go.wp_at_zero Go.wp_at_succ

set_option maxHeartbeats 64000000 in
theorem walk_RadicalRoots (b0 : Bool) (a0 : Option Addr) (len0 cap0 : Nat) (z0 : List Nat) (f0 : Int) (bb0 : Bool) (aa0 : Option Addr) (ll0 cc0 : Nat) (zz0 : List Nat) (ff0 : Int) (a1 : Int) (a2 : Bool) (w : World) (h0 : Sl w a0 len0 cap0 z0 ∧ -9223372036854775808 ≤ f0 ∧ f0 ≤ 9223372036854775807) (k0 : Sl w aa0 ll0 cc0 zz0 ∧ -9223372036854775808 ≤ ff0 ∧ ff0 ≤ 9223372036854775807) (h1 : -9223372036854775808 ≤ a1 ∧ a1 ≤ 9223372036854775807)  (hT : Tab w) :
    Calls Tryz.prog 3 #[.agg #[.bool b0, .slice a0 len0 cap0, .int .i64 f0, .bool bb0, .slice aa0 ll0 cc0, .int .i64 ff0], .int .i64 a1, .bool a2] w (fun e w' => e = .returned (.bool true) ∧ Below w.heap.size w w') := by
  have HT := Lib.hid (fun W (hW : Below w.heap.size w W) => hT.mono hW)
  clear hT
  go_enter Tryz.func3, Tryz.ntmps3
  go_wp2_with fail
  have L := ((Lq.mk0 w).varI (w.heap.size) (by simp) b0 a0 len0 cap0 f0 bb0 aa0 ll0 cc0 ff0)
  (try go_wp2_with fail)
  refine (awake12_any _ (HT.out _ L.below)).mono ?_
  rintro e9 w1 ⟨rfl, be⟩
  replace L := L.step be
  clear be
  have c00 := L.b0.c60
  have c01 := L.b0.c61
  have c02 := L.b0.c62
  have c03 := L.b0.c63
  have c04 := L.b0.c64
  have c05 := L.b0.c65
  (try go_wp2_with fail)
  refine (millI_any b0 bb0 z0 zz0 4 50 a0 aa0 len0 cap0 ll0 cc0 f0 ff0 _ (h0.1.mono L.below) (k0.1.mono L.below) (by omega) (by omega) h0.2.1 h0.2.2 k0.2.1 k0.2.2).mono ?_
  rintro e9 w2 ⟨vx, ok, m, e, n, f, rfl, ii, ⟨lm, ln⟩, he, hf, hv, le1, be⟩
  clear c00 c01 c02 c03 c04 c05
  obtain ⟨A, c, B, d, rfl, ia, ib⟩ := ii.form
  replace L := ((L.step be).n ib).n ia
  clear be ii ia ib
  have hlt0 := L.b0.lt
  replace L := L.varI w2.heap.size rfl (ng m) A (zl m) c e (ng n) B (zl n) d f
  cases ok
  · go_wp2_with fail
    go_ret
    exact ⟨rfl, L.below⟩
  obtain ⟨dv1, dv2⟩ := hv (by first | trivial | rfl)
  clear hv
  obtain ⟨r1, hr1⟩ : ∃ r : Nat, a1 % 100 = (r : Int) := ⟨(a1 % 100).toNat, by omega⟩
  obtain ⟨r2, hr2⟩ : ∃ r : Nat, a1 % 5 = (r : Int) := ⟨(a1 % 5).toNat, by omega⟩
  have o1 := fun W => mod_any a1 100 W (by omega) (by omega) h1.1 h1.2
  have o2 := fun W => mod_any a1 5 W (by omega) (by omega) h1.1 h1.2
  rw [hr1] at o1
  rw [hr2] at o2
  have br1 : r1 < 100 := by omega
  have br2 : r2 < 5 := by omega
  have MO1 := Lib.hid o1
  have MO2 := Lib.hid o2
  clear o1 o2 hr1 hr2
  obtain ⟨bm, hbm⟩ : ∃ b, ng m = b := ⟨_, rfl⟩
  have HBM := Lib.hid hbm
  clear hbm
  have dv3 := dv_opp dv1
  have zn := zl_neg m
  have gn := fun v W h => rneg8_any m e v W h (by omega)
  have gc := fun v u W h1 h2 => rcmp8_any (-m) e n f v u W h1 h2 (by omega) (by omega) (by omega) (by omega)
  obtain ⟨xc, hxc⟩ : ∃ z, cmpI (-m * 2 ^ (e - min e f).toNat) (n * 2 ^ (f - min e f).toNat) = z := ⟨_, rfl⟩
  rw [hxc] at gc
  obtain ⟨mm, hmm⟩ : ∃ z, -m = z := ⟨_, rfl⟩
  rw [hmm] at gn gc dv3 zn
  have HN := Lib.hid gn
  have HC := Lib.hid gc
  have HB1 := Lib.hid (show (zl m ≤ 5 ∧ (-50 ≤ e ∧ e ≤ 210) ∧ Dv m e) ∧ (zl n ≤ 5 ∧ (-50 ≤ f ∧ f ≤ 210) ∧ Dv n f) from ⟨⟨lm, by omega, dv1⟩, ln, by omega, dv2⟩)
  have HB2 := Lib.hid (show zl mm ≤ 5 ∧ (-50 ≤ e ∧ e ≤ 210) ∧ Dv mm e from ⟨by omega, by omega, dv3⟩)
  clear gn gc hxc hmm dv1 dv2 dv3 zn lm ln he hf le1
  have cel00 := L.b0.c60
  have cel01 := L.b0.c61
  have cel02 := L.b0.c62
  have cel03 := L.b0.c63
  have cel04 := L.b0.c64
  have cel05 := L.b0.c65
  go_upto_region 6 with fail
  obtain ⟨g, hg⟩ : ∃ g, w2.heap.size = g := ⟨_, rfl⟩
  rw [hg] at L hlt0 cel00 cel01 cel02 cel03 cel04 cel05 ⊢
  clear hg
  clear cel00 cel01 cel02 cel03 cel04 cel05
  go_cut [38] from 32 to 38 (fun s38 wx => s38 = .bool (a2 && bm) ∧ Lq w wx [(.slice A (zl m) c, m.natAbs), (.slice B (zl n) d, n.natAbs)] [] [] [(g, 28, #[.bool (ng m), .slice A (zl m) c, .int .i64 e, .bool (ng n), .slice B (zl n) d, .int .i64 f])])
  case first =>
    have LP := L.pick [(g, 28, #[.bool (ng m), .slice A (zl m) c, .int .i64 e, .bool (ng n), .slice B (zl n) d, .int .i64 f])] (by simp)
    have x9 := LP.b0.c60
    have x0 := x9.trans (congrArg (fun b => some (Value.bool b)) HBM.out)
    clear x9
    cases a2
    · go_wp2_with fail
      go_meet
      exact ⟨rfl, ((((Lq.mk0 w).step L.below).n (L.getN (v := .slice B (zl n) d) (x := n.natAbs) (by simp))).n (L.getN (v := .slice A (zl m) c) (x := m.natAbs) (by simp))).b LP.b0⟩
    · go_wp2_with fail
      go_meet
      exact ⟨by simp, ((((Lq.mk0 w).step L.below).n (L.getN (v := .slice B (zl n) d) (x := n.natAbs) (by simp))).n (L.getN (v := .slice A (zl m) c) (x := m.natAbs) (by simp))).b LP.b0⟩
  case rest =>
    obtain ⟨rfl, L⟩ := hcut
    clear HBM
    generalize wc = wd at *
    obtain ⟨bb, hbb⟩ : ∃ b, (a2 && bm) = b := ⟨_, rfl⟩
    rw [hbb]
    clear hbb
    go_upto_if 38 with fail
    go_cut [38] from 39 to 51 (fun s38 wx => ∃ m' e' n' f' A' c' B' d', Lq w wx [(.slice A' (zl m') c', m'.natAbs), (.slice B' (zl n') d', n'.natAbs)] [] [] [(g, 28, #[.bool (ng m'), .slice A' (zl m') c', .int .i64 e', .bool (ng n'), .slice B' (zl n') d', .int .i64 f'])] ∧ Hid ((zl m' ≤ 5 ∧ (-50 ≤ e' ∧ e' ≤ 210) ∧ Dv m' e') ∧ (zl n' ≤ 5 ∧ (-50 ≤ f' ∧ f' ≤ 210) ∧ Dv n' f')))
    case first =>
      cases bb
      · go_wp2_with fail
        go_meet
        exact ⟨m, e, n, f, A, c, B, d, L, HB1⟩
      have cel00 := L.b0.c60
      have f00 := L.b0.fr 0
      have cel01 := L.b0.c61
      have f01 := L.b0.fr 1
      have cel02 := L.b0.c62
      have f02 := L.b0.fr 2
      have cel03 := L.b0.c63
      have f03 := L.b0.fr 3
      have cel04 := L.b0.c64
      have f04 := L.b0.fr 4
      have cel05 := L.b0.c65
      have f05 := L.b0.fr 5
      go_wp2_with fail
      refine (HN.out _ _ (isD_n (m := m) (e := e) (s := .slice A (zl m) c) (L.getN (by simp)))).mono ?_
      rintro e w31 ⟨vv, rfl, id, be⟩
      clear cel00 f00 cel01 f01 cel02 f02 cel03 f03 cel04 f04 cel05 f05
      obtain ⟨A5, c5, rfl, _, in9⟩ := id.form
      replace L := (L.step be).n in9
      clear be id in9
      have cel00 := L.b0.c60
      have f00 := L.b0.fr 0
      have cel01 := L.b0.c61
      have f01 := L.b0.fr 1
      have cel02 := L.b0.c62
      have f02 := L.b0.fr 2
      have cel03 := L.b0.c63
      have f03 := L.b0.fr 3
      have cel04 := L.b0.c64
      have f04 := L.b0.fr 4
      have cel05 := L.b0.c65
      have f05 := L.b0.fr 5
      have P1 := (((L.set (by omega) (by simp) 0 (.bool (ng mm)) (by intro x e; cases e)).set (by omega) (by simp) 1 (.slice A5 (zl mm) c5) (by intro x e; cases e)).set (by omega) (by simp) 2 (.int .i64 e) (by intro x e; cases e))
      have P : Lq _ _ _ _ _ ((g, 28, #[.bool (ng mm), .slice A5 (zl mm) c5, .int .i64 e, .bool (ng n), .slice B (zl n) d, .int .i64 f]) :: _) := P1
      have s0 := P.b0.c60
      have t0 := P.b0.fr 0
      have s1 := P.b0.c61
      have t1 := P.b0.fr 1
      have s2 := P.b0.c62
      have t2 := P.b0.fr 2
      have s3 := P.b0.c63
      have t3 := P.b0.fr 3
      have s4 := P.b0.c64
      have t4 := P.b0.fr 4
      have s5 := P.b0.c65
      have t5 := P.b0.fr 5
      go_wp2_with fail
      clear s0 t0 s1 t1 s2 t2 s3 t3 s4 t4 s5 t5 P1
      replace L := P
      clear P
      clear cel00 f00 cel01 f01 cel02 f02 cel03 f03 cel04 f04 cel05 f05
      refine (HC.out _ _ _ (isD_n (m := mm) (e := e) (s := .slice A5 (zl mm) c5) (L.getN (by simp))) (isD_n (m := n) (e := f) (s := .slice B (zl n) d) (L.getN (by simp)))).mono ?_
      rintro e w32 ⟨rfl, be⟩
      replace L := L.step be
      clear be
      by_cases hx : 0 < xc
      · have b0 : decide (0 < xc) = true := decide_eq_true hx
        have cel00 := L.b0.c60
        have f00 := L.b0.fr 0
        have cel01 := L.b0.c61
        have f01 := L.b0.fr 1
        have cel02 := L.b0.c62
        have f02 := L.b0.fr 2
        have cel03 := L.b0.c63
        have f03 := L.b0.fr 3
        have cel04 := L.b0.c64
        have f04 := L.b0.fr 4
        have cel05 := L.b0.c65
        have f05 := L.b0.fr 5
        have P : Lq _ _ _ _ _ ((g, 28, #[.bool (ng mm), .slice A5 (zl mm) c5, .int .i64 e, .bool (ng mm), .slice A5 (zl mm) c5, .int .i64 e]) :: _) := (((L.set (by omega) (by simp) 3 (.bool (ng mm)) (by intro x e; cases e)).set (by omega) (by simp) 4 (.slice A5 (zl mm) c5) (by intro x e; cases e)).set (by omega) (by simp) 5 (.int .i64 e) (by intro x e; cases e))
        go_wp2_with fail
        go_meet
        exact ⟨mm, e, mm, e, A5, c5, A5, c5, ((((Lq.mk0 w).step P.below).n (P.getN (v := .slice A5 (zl mm) c5) (x := mm.natAbs) (by simp))).n (P.getN (v := .slice A5 (zl mm) c5) (x := mm.natAbs) (by simp))).b P.b0, Lib.hid ⟨HB2.out, HB2.out⟩⟩
      · have b0 : decide (0 < xc) = false := decide_eq_false hx
        go_wp2_with fail
        go_meet
        exact ⟨mm, e, n, f, A5, c5, B, d, ((((Lq.mk0 w).step L.below).n (L.getN (v := .slice B (zl n) d) (x := n.natAbs) (by simp))).n (L.getN (v := .slice A5 (zl mm) c5) (x := mm.natAbs) (by simp))).b L.b0, Lib.hid ⟨HB2.out, HB1.out.2⟩⟩
    case rest =>
      clear L HB1 HB2 HN HC
      obtain ⟨m, e, n, f, A, c, B, d, L, HBD⟩ := hcut
      generalize wc = we at *
      (try go_wp2_with fail)
      refine (MO1.out _).mono ?_
      rintro e9 w' ⟨rfl, rfl⟩
      (try go_wp2_with fail)
      refine (MO2.out _).mono ?_
      rintro e9 w' ⟨rfl, rfl⟩
      have hgl := L.b0.lt
      replace L := L.var we.heap.size rfl 3 #[.int .i64 (r1 : Int), .int .i64 (r2 : Int), .int .i64 a1, .int .i64 4097] (plainI4 _ _ _ _)
      (try go_wp2_with fail)
      obtain ⟨gr, hgr⟩ : ∃ z, we.heap.size = z := ⟨_, rfl⟩
      rw [hgr] at L hgl ⊢
      clear hgr
      obtain ⟨V, hV, L9⟩ := L.name
      rw [hV]
      clear hV L
      have L := L9
      clear L9
      have hNN : ∀ N ∈ [(r1 : Int), (r2 : Int), a1, 4097], -9223372036854775808 ≤ N ∧ N ≤ 9223372036854775807 := fun N hN => by
        simp only [List.mem_cons, List.not_mem_nil, or_false] at hN
        rcases hN with rfl | rfl | rfl | rfl <;> omega
      have HCE := Lib.hid (fun (wr : World) (hW : Below V.heap.size V wr) (j : Nat) (hj : j < 4) => row4_cell (L.b0.mono hW) hNN j hj)
      have LL := Lib.hid L
      clear L hNN
      go_loopw [59] (fun i wr => ∃ t : Nat, i = .int .i64 (t : Int) ∧ t ≤ 4 ∧ Below V.heap.size V wr) (fun i _ => 4 - (intOf i).toNat)
      case atStart => exact ⟨0, rfl, by omega, Below.refl _ _⟩
      case round =>
        obtain ⟨t, rfl, ht, hbe⟩ := hrel
        have hbs := hbe.size
        have hVw := LL.out.below.trans (hbe.mono LL.out.below.size)
        have hVs := hVw.size
        have HW0 := Lib.hid (fun W (hW : Below wr.heap.size wr W) => hVw.trans (hW.mono hVs))
        rcases Nat.eq_or_lt_of_le ht with rfl | ht3
        · go_wp2_with fail
          go_ret
          exact ⟨rfl, hVw⟩
        · obtain ⟨N, hN, hNa, hNb⟩ := HCE.out wr hbe t ht3
          have hlt : (t : Int) < 4 := by omega
          have ht0 : (0 : Int) ≤ (t : Int) := by omega
          obtain ⟨⟨lm, he, dv1⟩, ln, hf, dv2⟩ := HBD.out
          have L := (LL.out.step hbe).rebase
          obtain ⟨M1, E1, N1, G1, r1', fx1, ⟨zm1, ze1⟩, ⟨zn1, zg1⟩⟩ := RetSr.fix (m := m) (e := e) (n := n) (f := f) (by omega) (by omega) (by omega) (by omega) N
          obtain ⟨M2, E2, r2', fx2⟩ := RetSf.fix (m := m) (e := e) N
          obtain ⟨M3, E3, r3', fx3⟩ := RetSc.fix (m := m) (e := e) N
          have p1 := fun v W h (hW : Below wr.heap.size wr W) => dsqrt_any m e n f N v W h (by omega) (by omega) (by omega) (by omega) dv1 dv2 hNa hNb (HT.out W (HW0.out W hW))
          have q1 := fun v W h => rsqrt12_any m e n f N v W h (by omega) (by omega) (by omega) (by omega) dv1 dv2 hNa hNb
          have p2 := fun v W h (hW : Below wr.heap.size wr W) => dsqrtf_any m e N v W h (by omega) (by omega) dv1 hNa hNb (HT.out W (HW0.out W hW))
          have q2 := fun v W h => rsqrtf12_any m e N v W h (by omega) (by omega) dv1 hNa hNb
          have p3 := fun v W h (hW : Below wr.heap.size wr W) => dsqrtc_any m e N v W h (by omega) (by omega) dv1 hNa hNb (HT.out W (HW0.out W hW))
          have q3 := fun v W h => rsqrtc12_any m e N v W h (by omega) (by omega) dv1 hNa hNb
          simp only [fx1] at p1 q1
          simp only [fx2] at p2 q2
          simp only [fx3] at p3 q3
          have P1 := Lib.hid p1
          have Q1 := Lib.hid q1
          have ne1 : (r1' != r1') = false := by simp
          clear p1 q1 fx1
          have P2 := Lib.hid p2
          have Q2 := Lib.hid q2
          have ne2 : (r2' != r2') = false := by simp
          clear p2 q2 fx2
          have P3 := Lib.hid p3
          have Q3 := Lib.hid q3
          have ne3 : (r3' != r3') = false := by simp
          clear p3 q3 fx3
          have S1 := Lib.hid (fun v u W h1 h2 => (show Calls Tryz.prog 19 #[v, u] W (RetB W true) from by have s := r10same_any M1 E1 N1 G1 M1 E1 N1 G1 v u W h1 h2 (by omega) (by omega) (by omega) (by omega) (by omega) (by omega) (by omega) (by omega); rwa [show ((decide ((E1 : Int) = E1) && decide ((M1 : Int) = M1)) && (decide ((G1 : Int) = G1) && decide ((N1 : Int) = N1))) = true from by simp] at s))
          have S2 := Lib.hid (fun v u W h1 h2 => (show Calls Tryz.prog 20 #[v, u] W (RetB W true) from by have s := same8_any M2 E2 M2 E2 v u W h1 h2; rwa [show (decide ((E2 : Int) = E2) && decide ((M2 : Int) = M2)) = true from by simp] at s))
          have S3 := Lib.hid (fun v u W h1 h2 => (show Calls Tryz.prog 20 #[v, u] W (RetB W true) from by have s := same8_any M3 E3 M3 E3 v u W h1 h2; rwa [show (decide ((E3 : Int) = E3) && decide ((M3 : Int) = M3)) = true from by simp] at s))
          clear zm1 ze1 zn1 zg1 lm he dv1 ln hf dv2 hNa hNb HCE
          have cel10 := L.tl.b0.c60
          have cel11 := L.tl.b0.c61
          have cel12 := L.tl.b0.c62
          have cel13 := L.tl.b0.c63
          have cel14 := L.tl.b0.c64
          have cel15 := L.tl.b0.c65
          go_wp2_with fail
          refine (P1.out _ _ (isI_n (m := m) (e := e) (n := n) (f := f) (s := .slice A (zl m) c) (t := .slice B (zl n) d) (L.getN (by simp)) (L.getN (by simp))) L.below).mono ?_
          rintro e w101 ⟨vv, rfl, ii, be⟩
          clear cel10 cel11 cel12 cel13 cel14 cel15
          obtain ⟨A10, c10, B10, d10, rfl, ia, ib⟩ := ii.form
          replace L := ((L.step be).n ib).n ia
          clear be ii ia ib
          have hlgv10 := L.b0.lt
          have hlgv11 := L.tl.b0.lt
          replace L := L.varI w101.heap.size rfl (ng M1) A10 (zl M1) c10 E1 (ng N1) B10 (zl N1) d10 G1
          have cel20 := L.tl.tl.b0.c60
          have cel21 := L.tl.tl.b0.c61
          have cel22 := L.tl.tl.b0.c62
          have cel23 := L.tl.tl.b0.c63
          have cel24 := L.tl.tl.b0.c64
          have cel25 := L.tl.tl.b0.c65
          go_wp2_with fail
          obtain ⟨gv1, hg⟩ : ∃ g, w101.heap.size = g := ⟨_, rfl⟩
          rw [hg] at L hlgv10 hlgv11 ⊢
          clear hg
          refine (Q1.out _ _ (isI_n (m := m) (e := e) (n := n) (f := f) (s := .slice A (zl m) c) (t := .slice B (zl n) d) (L.getN (by simp)) (L.getN (by simp)))).mono ?_
          rintro e w102 ⟨vv, rfl, ii, be⟩
          clear cel20 cel21 cel22 cel23 cel24 cel25
          obtain ⟨A11, c11, B11, d11, rfl, ia, ib⟩ := ii.form
          replace L := ((L.step be).n ib).n ia
          clear be ii ia ib
          have hlgv20 := L.b0.lt
          replace L := L.varI w102.heap.size rfl (ng M1) A11 (zl M1) c11 E1 (ng N1) B11 (zl N1) d11 G1
          have cel30 := L.tl.tl.tl.b0.c60
          have cel31 := L.tl.tl.tl.b0.c61
          have cel32 := L.tl.tl.tl.b0.c62
          have cel33 := L.tl.tl.tl.b0.c63
          have cel34 := L.tl.tl.tl.b0.c64
          have cel35 := L.tl.tl.tl.b0.c65
          go_wp2_with fail
          obtain ⟨gv2, hg⟩ : ∃ g, w102.heap.size = g := ⟨_, rfl⟩
          rw [hg] at L hlgv20 ⊢
          clear hg
          refine (P2.out _ _ (isD_n (m := m) (e := e) (s := .slice A (zl m) c) (L.getN (by simp))) L.below).mono ?_
          rintro e w103 ⟨vv, rfl, id, be⟩
          clear cel30 cel31 cel32 cel33 cel34 cel35
          obtain ⟨A12, c12, rfl, _, in9⟩ := id.form
          replace L := (L.step be).n in9
          clear be id in9
          have hlgv30 := L.b0.lt
          replace L := L.varD w103.heap.size rfl (ng M2) A12 (zl M2) c12 E2
          have cel40 := L.tl.tl.tl.tl.b0.c60
          have cel41 := L.tl.tl.tl.tl.b0.c61
          have cel42 := L.tl.tl.tl.tl.b0.c62
          have cel43 := L.tl.tl.tl.tl.b0.c63
          have cel44 := L.tl.tl.tl.tl.b0.c64
          have cel45 := L.tl.tl.tl.tl.b0.c65
          go_wp2_with fail
          obtain ⟨gv3, hg⟩ : ∃ g, w103.heap.size = g := ⟨_, rfl⟩
          rw [hg] at L hlgv30 ⊢
          clear hg
          refine (P3.out _ _ (isD_n (m := m) (e := e) (s := .slice A (zl m) c) (L.getN (by simp))) L.below).mono ?_
          rintro e w104 ⟨vv, rfl, id, be⟩
          clear cel40 cel41 cel42 cel43 cel44 cel45
          obtain ⟨A13, c13, rfl, _, in9⟩ := id.form
          replace L := (L.step be).n in9
          clear be id in9
          have hlgv40 := L.b0.lt
          replace L := L.varD w104.heap.size rfl (ng M3) A13 (zl M3) c13 E3
          have cel50 := L.tl.tl.tl.tl.tl.b0.c60
          have cel51 := L.tl.tl.tl.tl.tl.b0.c61
          have cel52 := L.tl.tl.tl.tl.tl.b0.c62
          have cel53 := L.tl.tl.tl.tl.tl.b0.c63
          have cel54 := L.tl.tl.tl.tl.tl.b0.c64
          have cel55 := L.tl.tl.tl.tl.tl.b0.c65
          go_wp2_with fail
          obtain ⟨gv4, hg⟩ : ∃ g, w104.heap.size = g := ⟨_, rfl⟩
          rw [hg] at L hlgv40 ⊢
          clear hg
          refine (Q2.out _ _ (isD_n (m := m) (e := e) (s := .slice A (zl m) c) (L.getN (by simp)))).mono ?_
          rintro e w105 ⟨vv, rfl, id, be⟩
          clear cel50 cel51 cel52 cel53 cel54 cel55
          obtain ⟨A14, c14, rfl, _, in9⟩ := id.form
          replace L := (L.step be).n in9
          clear be id in9
          have hlgv50 := L.b0.lt
          replace L := L.varD w105.heap.size rfl (ng M2) A14 (zl M2) c14 E2
          have cel60 := L.tl.tl.tl.tl.tl.tl.b0.c60
          have cel61 := L.tl.tl.tl.tl.tl.tl.b0.c61
          have cel62 := L.tl.tl.tl.tl.tl.tl.b0.c62
          have cel63 := L.tl.tl.tl.tl.tl.tl.b0.c63
          have cel64 := L.tl.tl.tl.tl.tl.tl.b0.c64
          have cel65 := L.tl.tl.tl.tl.tl.tl.b0.c65
          go_wp2_with fail
          obtain ⟨gv5, hg⟩ : ∃ g, w105.heap.size = g := ⟨_, rfl⟩
          rw [hg] at L hlgv50 ⊢
          clear hg
          refine (Q3.out _ _ (isD_n (m := m) (e := e) (s := .slice A (zl m) c) (L.getN (by simp)))).mono ?_
          rintro e w106 ⟨vv, rfl, id, be⟩
          clear cel60 cel61 cel62 cel63 cel64 cel65
          obtain ⟨A15, c15, rfl, _, in9⟩ := id.form
          replace L := (L.step be).n in9
          clear be id in9
          have hlgv60 := L.b0.lt
          replace L := L.varD w106.heap.size rfl (ng M3) A15 (zl M3) c15 E3
          have cel40 := L.tl.tl.tl.tl.b0.c60
          have cel41 := L.tl.tl.tl.tl.b0.c61
          have cel42 := L.tl.tl.tl.tl.b0.c62
          have cel43 := L.tl.tl.tl.tl.b0.c63
          have cel44 := L.tl.tl.tl.tl.b0.c64
          have cel45 := L.tl.tl.tl.tl.b0.c65
          have cel50 := L.tl.tl.tl.tl.tl.b0.c60
          have cel51 := L.tl.tl.tl.tl.tl.b0.c61
          have cel52 := L.tl.tl.tl.tl.tl.b0.c62
          have cel53 := L.tl.tl.tl.tl.tl.b0.c63
          have cel54 := L.tl.tl.tl.tl.tl.b0.c64
          have cel55 := L.tl.tl.tl.tl.tl.b0.c65
          go_wp2_with fail
          obtain ⟨gv6, hg⟩ : ∃ g, w106.heap.size = g := ⟨_, rfl⟩
          rw [hg] at L hlgv60 ⊢
          clear hg
          refine (S1.out _ _ _ (isI_n (m := M1) (e := E1) (n := N1) (f := G1) (s := .slice A10 (zl M1) c10) (t := .slice B10 (zl N1) d10) (L.getN (by simp)) (L.getN (by simp))) (isI_n (m := M1) (e := E1) (n := N1) (f := G1) (s := .slice A11 (zl M1) c11) (t := .slice B11 (zl N1) d11) (L.getN (by simp)) (L.getN (by simp)))).mono ?_
          rintro e w107 ⟨rfl, be⟩
          clear cel40 cel41 cel42 cel43 cel44 cel45 cel50 cel51 cel52 cel53 cel54 cel55
          replace L := L.step be
          clear be
          have cel10 := L.tl.b0.c30
          have cel11 := L.tl.b0.c31
          have cel12 := L.tl.b0.c32
          have cel30 := L.tl.tl.tl.b0.c30
          have cel31 := L.tl.tl.tl.b0.c31
          have cel32 := L.tl.tl.tl.b0.c32
          go_wp2_with fail
          refine (S2.out _ _ _ (isD_n (m := M2) (e := E2) (s := .slice A12 (zl M2) c12) (L.getN (by simp))) (isD_n (m := M2) (e := E2) (s := .slice A14 (zl M2) c14) (L.getN (by simp)))).mono ?_
          rintro e w108 ⟨rfl, be⟩
          clear cel10 cel11 cel12 cel30 cel31 cel32
          replace L := L.step be
          clear be
          have cel00 := L.b0.c30
          have cel01 := L.b0.c31
          have cel02 := L.b0.c32
          have cel20 := L.tl.tl.b0.c30
          have cel21 := L.tl.tl.b0.c31
          have cel22 := L.tl.tl.b0.c32
          go_wp2_with fail
          refine (S3.out _ _ _ (isD_n (m := M3) (e := E3) (s := .slice A13 (zl M3) c13) (L.getN (by simp))) (isD_n (m := M3) (e := E3) (s := .slice A15 (zl M3) c15) (L.getN (by simp)))).mono ?_
          rintro e w109 ⟨rfl, be⟩
          clear cel00 cel01 cel02 cel20 cel21 cel22
          replace L := L.step be
          clear be
          go_wp2_with fail
          go_roundw
          case rel => exact ⟨t + 1, by go_num, by omega, hbe.trans (L.below.mono hbs)⟩
          case measure => simp [intOf]; omega

end Go.Proofs.YthfabjpbdgieoaaGreatDoor
